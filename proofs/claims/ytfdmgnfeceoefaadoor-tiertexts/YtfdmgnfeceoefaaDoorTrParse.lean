/- Contracts of layer 9: Parse; a number's digits, by the document. -/
import Derived.Test.YtfdmgnfeceoefaaDoorTrSaid
import Derived.Test.YtfdmgnfeceoefaaDoorSlText
import Derived.Laws.IdiomStrings
namespace Go.Proofs.YtfdmgnfeceoefaaDoor
set_option linter.unusedVariables false
open Go.RowKit Go.Sort
open Tr

namespace Tr
def zero : Value := .agg #[.int .i64 0, .int .i64 0, .slice none 0 0]
/-- What Parse must tell of s. -/
def PIs (s : ByteArray) (e : Ending) (w' : World) : Prop :=
  (e = .returned (.tuple #[.agg #[.int .i64 0, .int .i64 0, .slice none 0 0], .int .i64 10]) ∧ None (bl s)) ∨
  ∃ (g i : Nat) (ls : List (Nat × Nat)), Says (bl s) g i ls ∧ ((right g i (I ls) ≠ 0 ∧ e = .returned (.tuple #[.agg #[.int .i64 0, .int .i64 0, .slice none 0 0], .int .i64 (right g i (I ls))])) ∨
    (right g i (I ls) = 0 ∧ ∃ a c, e = .returned (.tuple #[.agg #[.int .i64 g, .int .i64 i, .slice a ls.length c], .int .i64 0]) ∧ Ps w' a (I ls) ∧ ls.length ≤ c ∧ c ≤ maxLen))
theorem take5_right (g i : Int) (ls : List (Nat × Nat)) : right g i (I (ls.take 5)) = right g i (I ls) := by
  by_cases h : ls.length ≤ 5
  · rw [List.take_of_length_le h]
  · unfold right
    rw [if_pos (c := (I (ls.take 5)).length = 0 ∨ _) (by rw [I_length]; simp; omega), if_pos (c := (I ls).length = 0 ∨ _) (by rw [I_length]; omega)]
end Tr

set_option maxRecDepth 100000 in
set_option maxHeartbeats 1600000 in
theorem parse_any (s : ByteArray) (hs : s.size ≤ 1000000) (w : World) (hv : Vars w) :
    Calls Tryd.prog 13 #[.string s] w fun e w' => Below w.heap.size w w' ∧ PIs s e w' := by
  have HV : Hid (Vars w) := hv
  clear hv
  go_enter Tryd.func13, Tryd.ntmps13
  go_wp2_with fail
  refine (said_any s hs _ (HV.out.keep (box_over _ _))).mono ?_
  rintro e u ⟨b1, h⟩
  have BU : Hid (Below w.heap.size w u) := (box_over _ _).trans (b1.mono (by simp))
  have RU : Hid (u.rowIs w.heap.size 24 3 (pcell 0 0 (.slice none 0 0))) := (pcell_alloc w 0 0 (.slice none 0 0) 24).of_block (b1.block _ (by simp))
  have zu : w.heap.size < u.heap.size := RU.out.lt
  have c0 : u.cell? ⟨w.heap.size, 0, none⟩ = some (.int .i64 0) := RU.out.cell (show 0 < 3 by decide)
  have c1 : u.cell? ⟨w.heap.size, 1, none⟩ = some (.int .i64 0) := RU.out.cell (show 1 < 3 by decide)
  have c2 : u.cell? ⟨w.heap.size, 2, none⟩ = some (.slice none 0 0) := RU.out.cell (show 2 < 3 by decide)
  have f0 : u.frozen? ⟨w.heap.size, 0, none⟩ = false := RU.out.frozen 0
  have f1 : u.frozen? ⟨w.heap.size, 1, none⟩ = false := RU.out.frozen 1
  have f2 : u.frozen? ⟨w.heap.size, 2, none⟩ = false := RU.out.frozen 2
  clear b1
  rcases h with ⟨rfl, hn⟩ | ⟨g, i, ls, a, n, c, rfl, hsy, hn, hp, hc1, hc2, hnew⟩
  · have HN : Hid (None (bl s)) := hn
    clear hn
    go_wp2
    exact bodyPost_ret (v := .tuple #[.agg #[.int .i64 0, .int .i64 0, .slice none 0 0], .int .i64 10]) (by simp [results, Tryd.results13, go_sem, c0, c1, c2, zu]) rfl ⟨(((BU.out.setCell (by simp) _).setCell (by simp) _).setCell (by simp) _).alloc (by simp; omega) _, Or.inl ⟨rfl, HN.out⟩⟩
  · have HS : Hid (Says (bl s) g i ls) := hsy
    have HP : Hid (Ps u a (I (ls.take 5))) := hp
    have HC : Hid (n ≤ c ∧ c ≤ maxLen) := ⟨hc1, hc2⟩
    have HW : Hid (∀ x, a = some x → w.heap.size + 1 ≤ x.block) := fun x hx => by have := hnew x hx; simpa using this
    have en : n = (I (ls.take 5)).length := by rw [I_length]; exact hn
    have n5 : n ≤ 5 := by rw [hn]; simp; omega
    have EN : Hid (n = (ls.take 5).length) := hn
    obtain ⟨r, hr⟩ : ∃ r, right g i (I ls) = r := ⟨_, rfl⟩
    have HR : Hid (right g i (I (ls.take 5)) = r) := by show _ = _; rw [take5_right]; exact hr
    have HR2 : Hid (right g i (I ls) = r) := hr
    clear hsy hp hc1 hc2 hn hr hnew
    subst en
    go_wp2_with fail
    refine (right_any g i a c (I (ls.take 5)) r HR.out _ (HP.out.keep (box_over _ _)) (by unfold maxLen; omega)).mono ?_
    rintro e v ⟨rfl, b2⟩
    have BV : Hid (Below u.heap.size u v) := (box_over _ _).trans (b2.mono (by simp))
    have zv : w.heap.size < v.heap.size := by have := BV.out.size; omega
    have zv2 : u.heap.size < v.heap.size := by have := b2.size; simp at this; omega
    have d0 : v.cell? ⟨u.heap.size, 0, none⟩ = some (.int .i64 g) := by rw [b2.cell (p := ⟨u.heap.size, 0, none⟩) (by simp)]; simp
    have d1 : v.cell? ⟨u.heap.size, 1, none⟩ = some (.int .i64 i) := by rw [b2.cell (p := ⟨u.heap.size, 1, none⟩) (by simp)]; simp
    have d2 : v.cell? ⟨u.heap.size, 2, none⟩ = some (.slice a (I (ls.take 5)).length c) := by rw [b2.cell (p := ⟨u.heap.size, 2, none⟩) (by simp)]; simp
    have c0 : v.cell? ⟨w.heap.size, 0, none⟩ = some (.int .i64 0) := by rw [BV.out.cell (p := ⟨w.heap.size, 0, none⟩) zu]; exact c0
    have c1 : v.cell? ⟨w.heap.size, 1, none⟩ = some (.int .i64 0) := by rw [BV.out.cell (p := ⟨w.heap.size, 1, none⟩) zu]; exact c1
    have c2 : v.cell? ⟨w.heap.size, 2, none⟩ = some (.slice none 0 0) := by rw [BV.out.cell (p := ⟨w.heap.size, 2, none⟩) zu]; exact c2
    have f0 : v.frozen? ⟨w.heap.size, 0, none⟩ = false := by rw [BV.out.frozen (p := ⟨w.heap.size, 0, none⟩) zu]; exact f0
    have f1 : v.frozen? ⟨w.heap.size, 1, none⟩ = false := by rw [BV.out.frozen (p := ⟨w.heap.size, 1, none⟩) zu]; exact f1
    have f2 : v.frozen? ⟨w.heap.size, 2, none⟩ = false := by rw [BV.out.frozen (p := ⟨w.heap.size, 2, none⟩) zu]; exact f2
    clear b2
    by_cases hr0 : r = 0
    · subst hr0
      have hl5 : ls.take 5 = ls := by
        obtain ⟨-, -, -, -, -, h4, -⟩ := right_zero HR2.out
        rw [I_length] at h4
        exact List.take_of_length_le (by omega)
      have HL : Hid (ls.take 5 = ls) := hl5
      clear hl5
      go_wp2
      refine bodyPost_ret (v := .tuple #[.agg #[.int .i64 g, .int .i64 i, .slice a (I (ls.take 5)).length c], .int .i64 0]) (by simp [results, Tryd.results13, go_sem, c0, c1, c2]) rfl ⟨(((below_then BU.out BV.out).setCell (by simp) _).setCell (by simp) _).setCell (by simp) _, Or.inr ⟨g, i, ls, HS.out, Or.inr ⟨HR2.out, a, c, ?_, ?_, ?_⟩⟩⟩
      · rw [HL.out, I_length]
      · rw [← HL.out]
        intro j hj
        obtain ⟨b, o, e, q1, q2⟩ := HP.out.keep BV.out j hj
        have hb : ¬ w.heap.size = b := by
          intro e2
          have := HW.out _ e
          simp at this
          omega
        refine ⟨b, o, e, ?_, ?_⟩
        · rw [World.cell?_setCell_other _ _ _ _ (by intro e3; exact hb (congrArg Addr.block e3)), World.cell?_setCell_other _ _ _ _ (by intro e3; exact hb (congrArg Addr.block e3)), World.cell?_setCell_other _ _ _ _ (by intro e3; exact hb (congrArg Addr.block e3))]; exact q1
        · rw [World.cell?_setCell_other _ _ _ _ (by intro e3; exact hb (congrArg Addr.block e3)), World.cell?_setCell_other _ _ _ _ (by intro e3; exact hb (congrArg Addr.block e3)), World.cell?_setCell_other _ _ _ _ (by intro e3; exact hb (congrArg Addr.block e3))]; exact q2
      · have h := HC.out
        rw [I_length, HL.out] at h
        exact h
    · have g0 : (r != 0) = true := by simp [hr0]
      have H0 : Hid (¬ r = 0) := hr0
      clear hr0
      go_wp2
      refine bodyPost_ret (v := .tuple #[.agg #[.int .i64 0, .int .i64 0, .slice none 0 0], .int .i64 r]) (by simp [results, Tryd.results13, go_sem, c0, c1, c2]) rfl ⟨(((below_then BU.out BV.out).setCell (by simp) _).setCell (by simp) _).setCell (by simp) _, Or.inr ⟨g, i, ls, HS.out, Or.inl ⟨?_, ?_⟩⟩⟩
      · rw [HR2.out]; exact H0.out
      · rw [HR2.out]

/-- A row of one byte, as a text. -/
theorem conv_one (x : UInt8) (v : World) (g : Nat) (h : v.cell? ⟨g, 0, none⟩ = some (.int .u8 (x.toNat : Int))) : (convert 66 9 (.slice (some ⟨g, 0, none⟩) 1 1)).run Tryd.prog v = .ok (.string ⟨#[x]⟩) v :=
  run_convert_bytes_back (P := Tryd.prog) v 66 9 5 ⟨g, 0, none⟩ 1 [x] Tryd.underlying66 Tryd.underlying5 Tryd.underlying9 (fun j hj => by
    have : j = 0 := by simp at hj; omega
    subst this
    rw [show (⟨g, 0, none⟩ : Addr).add 0 = ⟨g, 0, none⟩ by unfold Addr.add; simp]
    exact h)
theorem Tr.dig_num {n : Nat} (h : n < 10) : ((UInt8.ofNat (48 + n)).toNat : Int) = 48 + (n : Int) := by rw [toNat_of h]; omega

theorem Tr.dec_len20 {n : Nat} (h : n < 18446744073709551616) : (dec n).length ≤ 20 := by
  have e : (dec n).length = Lib.nDigits n := Lib.decDigits_length n
  rw [e]
  rcases Nat.eq_zero_or_pos n with rfl | h1
  · rw [Lib.nDigits_small (by omega)]; omega
  · have := Lib.numDigits_eq n h1 h
    split at this <;> omega

set_option maxRecDepth 100000 in
set_option maxHeartbeats 3200000 in
theorem digits_any (n : Nat) : ∀ (t : ByteArray) (ht : bl t = dec n) (hn : n < 4611686018427387904) (w : World),
    Calls Tryd.prog 28 #[.int .i64 n] w fun e w' => e = .returned (.string t) ∧ Below w.heap.size w w' := by
  induction n using Nat.strongRecOn with
  | _ n ih =>
    intro t ht hn w
    by_cases h : n < 10
    · have et : t = ⟨#[UInt8.ofNat (48 + n)]⟩ := bl_inj (by rw [ht, dec_one h]; rfl)
      obtain ⟨x, hx⟩ : ∃ x, UInt8.ofNat (48 + n) = x := ⟨_, rfl⟩
      have ex : (x.toNat : Int) = 48 + (n : Int) := by rw [← hx]; exact dig_num h
      rw [hx] at et
      subst et
      have hcv : (convert 66 9 (.slice (some ⟨w.heap.size, 0, none⟩) 1 1)).run Tryd.prog (w.alloc (.cells #[.int .u8 (48 + (n : Int))] 5)) = .ok (.string ⟨#[x]⟩) (w.alloc (.cells #[.int .u8 (48 + (n : Int))] 5)) := conv_one x _ _ (by rw [ex]; simp)
      clear hx ht ih ex
      go_enter Tryd.func28, Tryd.ntmps28
      go_wp2
      go_ret
      exact ⟨rfl, box_over _ _⟩
    · obtain ⟨m, hm⟩ : ∃ m, n / 10 = m := ⟨_, rfl⟩
      obtain ⟨d, hd⟩ : ∃ d, n % 10 = d := ⟨_, rfl⟩
      have hd10 : d < 10 := by omega
      have hmn : m < n := by omega
      obtain ⟨x, hx⟩ : ∃ x, UInt8.ofNat (48 + d) = x := ⟨_, rfl⟩
      have ex : (x.toNat : Int) = 48 + (d : Int) := by rw [← hx]; exact dig_num hd10
      obtain ⟨t1, ht1⟩ : ∃ t1 : ByteArray, bl t1 = dec m := ⟨⟨(dec m).toArray⟩, rfl⟩
      have et : t = t1 ++ ⟨#[x]⟩ := bl_inj (by rw [ht, dec_more h, bl_append, ht1, hm, hd, hx]; rfl)
      have IH := fun v => ih m hmn t1 ht1 (by omega) v
      have IHH : Hid (∀ v, Calls Tryd.prog 28 #[.int .i64 m] v fun e w' => e = .returned (.string t1) ∧ Below v.heap.size v w') := IH
      have hcv : ∀ (v : World) (g : Nat), v.cell? ⟨g, 0, none⟩ = some (.int .u8 (48 + (d : Int))) → (convert 66 9 (.slice (some ⟨g, 0, none⟩) 1 1)).run Tryd.prog v = .ok (.string ⟨#[x]⟩) v := fun v g hc => conv_one x v g (by rw [ex]; exact hc)
      have q1 : (n : Int).tdiv 10 = m := by rw [Int.tdiv_eq_ediv_of_nonneg (by omega)]; omega
      have q2 : (n : Int).tmod 10 = d := by rw [Int.tmod_eq_emod_of_nonneg (by omega)]; omega
      have q3 : IntKind.i64.wrap (m : Int) = m := i64_same9 (by omega) (by omega)
      have q4 : IntKind.i64.wrap (d : Int) = d := i64_same9 (by omega) (by omega)
      have q5 : IntKind.i64.wrap (48 + (d : Int)) = 48 + d := i64_same9 (by omega) (by omega)
      have q6 : IntKind.u8.wrap (48 + (d : Int)) = 48 + d := by simp [IntKind.wrap, IntKind.bits, IntKind.signed]; omega
      have tsz : t1.size ≤ 20 := by rw [bl_size, ht1]; exact dec_len20 (by omega)
      have q7 : ¬ 9223372036854775807 < t1.size + 1 := by omega
      clear ih ht hx ht1 ex IH hm hd
      subst et
      go_enter Tryd.func28, Tryd.ntmps28
      go_wp2
      go_region_with (first
        | (go_at_call 28; (with_reducible refine (IHH.out w.drew).mono ?_); rintro e v1 ⟨rfl, hb⟩; have B1 : Hid (Below w.heap.size w v1) := (Below.refl w.heap.size w).drew.trans hb; clear hb)
        | (go_at_call 28; refine (IHH.out _).mono ?_; rintro e v1 ⟨rfl, hb⟩; have B1 : Hid (Below w.heap.size w v1) := ((Below.refl w.heap.size w).alloc (Nat.le_refl _) _).drew.trans (hb.mono (by simp)); have hcc : v1.cell? ⟨w.heap.size, 0, none⟩ = some (.int .u8 (48 + (d : Int))) := (by rw [hb.cell (p := ⟨w.heap.size, 0, none⟩) (by simp)]; simp); clear hb))
      all_goals
        go_wp2
        go_ret
        first
          | exact ⟨rfl, B1.out⟩
          | exact ⟨rfl, B1.out.alloc B1.out.size _⟩
end Go.Proofs.YtfdmgnfeceoefaaDoor
