/- Contracts of Close and Open of package seal. -/
import Derived.Test.YtimkfkolkplpdaaGreatSlMakes
import Derived.Test.YtimkfkolkplpdaaGreatSlRefs
namespace Go.Proofs.YtimkfkolkplpdaaGreat
set_option linter.unusedVariables false
open Go.RowKit

theorem close_any (a : Option Addr) (m c : Nat) (l : List Int) (T : Nat) (hm : m = l.length) (hl : l.length ≤ 10000) (hT : l.length + 4 = T) (w : World) (ha : Lst .u8 w a l) (hb : Sl.Byt l) :
    Calls Tryz.prog 45 #[.slice a m c] w fun e w' => ∃ g, e = .returned (.slice (some ⟨g, 0, none⟩) T T) ∧ w.heap.size ≤ g ∧ w'.rowIs g 5 T (fun j => .int .u8 (Ls.nth (Sl.close l) j)) ∧ Below w.heap.size w w' := by
  obtain ⟨h, eh⟩ : ∃ h, Sl.sum l = h := ⟨_, rfl⟩
  have hh : h < 4294967296 := by rw [← eh]; exact Sl.sum_lt l
  have HM : Hid (m = l.length) := hm
  have HT : Hid (l.length + 4 = T) := hT
  have HA : Hid (Lst .u8 w a l) := ha
  have HB : Hid (Sl.Byt l) := hb
  have EH : Hid (Sl.sum l = h) := eh
  clear ha hb eh hm hT
  go_enter Tryz.func45, Tryz.ntmps45
  go_wp2_with (first
    | (go_at_call 74; refine (sum_any a m c l h HM.out (by unfold maxLen; omega) EH.out _ HA.out HB.out).mono ?_; rintro e w' ⟨rfl, hww⟩; cases hww.symm; clear hww)
    | (go_at_call 73; refine (put_any a m c l h 4 4 T HM.out hl rfl HT.out (by omega) _ HA.out).mono ?_; rintro e w' ⟨g, rfl, hg, hr, hww⟩; have R1 : Hid (w'.rowIs g 5 T (fun j => .int .u8 (Ls.nth (l ++ Sl.be 4 h) j))) := hr; have B1 : Hid (Below w.heap.size w w') := hww; clear hww hr))
  go_ret
  refine ⟨g, rfl, hg, ?_, B1.out⟩
  have := R1.out
  rw [← EH.out] at this
  exact this

theorem Sl.byt_take {l : List Int} (hb : Sl.Byt l) (k : Nat) : Sl.Byt (l.take k) := by
  apply Sl.byt_mk
  intro i hi
  simp at hi
  rw [Ls.nth_take (by omega)]
  exact hb i
theorem Sl.byt_dropn {l : List Int} (hb : Sl.Byt l) (k : Nat) : Sl.Byt (l.drop k) := by
  intro i
  rw [Ls.nth_drop]
  exact hb _
theorem Sl.sealed_iff {l : List Int} (hb : Sl.Byt l) (hn : 4 ≤ l.length) : Sl.sealed l = true ↔ Sl.num (l.drop (l.length - 4)) = Sl.sum (l.take (l.length - 4)) := by
  have hd : (l.drop (l.length - 4)).length = 4 := by simp; omega
  have e0 : Sl.be 4 (Sl.num (l.drop (l.length - 4))) = l.drop (l.length - 4) := by
    have := Sl.be_num (Sl.byt_dropn hb (l.length - 4))
    rw [hd] at this
    exact this
  unfold Sl.sealed
  rw [decide_eq_true_iff]
  unfold Sl.close
  constructor
  · intro h
    have h2 : l.take (l.length - 4) ++ Sl.be 4 (Sl.sum (l.take (l.length - 4))) = l.take (l.length - 4) ++ l.drop (l.length - 4) := by rw [h, List.take_append_drop]
    have h3 := List.append_cancel_left h2
    rw [← e0] at h3
    refine (Sl.be_inj ?_ ?_ h3).symm
    · rw [Sl.four]; exact Sl.sum_lt _
    · have := Sl.numN_lt (Sl.byt_dropn hb (l.length - 4)) (l.drop (l.length - 4)).length
      rw [hd] at this
      unfold Sl.num
      rw [hd]
      exact this
  · intro h
    rw [← h, e0, List.take_append_drop]

theorem Lst.behind {k : IntKind} {w : World} {a : Option Addr} {l : List Int} (h : Lst k w a l) (t : Nat) : Lst k w (Option.map (fun x => x.add t) a) (l.drop t) := fun i hi => by
  simp at hi
  obtain ⟨b, o, e, hc⟩ := h (t + i) (by omega)
  subst e
  refine ⟨b, o + t, ?_, by rw [Ls.nth_drop, Nat.add_assoc]; exact hc⟩
  rw [Option.map_some, Addr.add_lit]
theorem open_short (a : Option Addr) (m c : Nat) (hm : m < 4) (w : World) :
    Calls Tryz.prog 46 #[.slice a m c] w fun e w' => e = .returned (.tuple #[.slice none 0 0, .int .i64 16]) ∧ w' = w := by
  go_enter Tryz.func46, Tryz.ntmps46
  go_wp2
  go_ret2
  exact ⟨rfl, rfl⟩

theorem open_bad (a : Option Addr) (m c : Nat) (l : List Int) (hm : m = l.length) (hn : 4 ≤ l.length) (hl : l.length ≤ 10000) (hc : m ≤ c) (hc2 : c ≤ maxLen) (w : World) (ha : Lst .u8 w a l) (hb : Sl.Byt l) (ho : Sl.sealed l = false) :
    Calls Tryz.prog 46 #[.slice a m c] w fun e w' => e = .returned (.tuple #[.slice none 0 0, .int .i64 22]) ∧ w' = w := by
  subst hm
  unfold maxLen at hc2
  obtain ⟨k, ek⟩ : ∃ k, l.length - 4 = k := ⟨_, rfl⟩
  have hki : (l.length : Int) - 4 = (k : Int) := by omega
  have hkl : k ≤ l.length := by omega
  have hkl4 : l.length - k = 4 := by omega
  obtain ⟨h, eh⟩ : ∃ h, Sl.sum (l.take k) = h := ⟨_, rfl⟩
  obtain ⟨n, en⟩ : ∃ n, Sl.num (l.drop k) = n := ⟨_, rfl⟩
  have hne : ¬ n = h := by
    intro e
    have := (Sl.sealed_iff hb hn).2 (by rw [ek, en, eh, e])
    rw [ho] at this
    cases this
  have hh : h < 4294967296 := by rw [← eh]; exact Sl.sum_lt _
  have HE : Hid (l.length - 4 = k) := ek
  have HA : Hid (Lst .u8 w a l) := ha
  have HB : Hid (Sl.Byt l) := hb
  have EH : Hid (Sl.sum (l.take k) = h) := eh
  have EN : Hid (Sl.num (l.drop k) = n) := en
  clear ek eh en ha hb ho
  go_enter Tryz.func46, Tryz.ntmps46
  go_wp2_with (first
    | (go_at_call 75; refine (number_any _ 4 _ (l.drop k) n (by have := HE.out; simp; omega) (by have := HE.out; simp; omega) EN.out _ (HA.out.behind k) (Sl.byt_dropn HB.out k)).mono ?_; rintro e w' ⟨rfl, hww⟩; cases hww.symm; clear hww)
    | (go_at_call 74; refine (sum_any a k _ (l.take k) h (by simp; omega) (by unfold maxLen; simp; omega) EH.out _ (HA.out.to k) (Sl.byt_take HB.out k)).mono ?_; rintro e w' ⟨rfl, hww⟩; cases hww.symm; clear hww))
  go_ret2
  exact ⟨rfl, rfl⟩

theorem open_ok (a : Option Addr) (m c k : Nat) (l : List Int) (hm : m = l.length) (hn : 4 ≤ l.length) (hl : l.length ≤ 10000) (hc : m ≤ c) (hc2 : c ≤ maxLen) (ek : l.length - 4 = k) (w : World) (ha : Lst .u8 w a l) (hb : Sl.Byt l) (ho : Sl.sealed l = true) :
    Calls Tryz.prog 46 #[.slice a m c] w fun e w' => ∃ a' c', e = .returned (.tuple #[.slice a' k c', .int .i64 0]) ∧ Lst .u8 w' a' (l.take k) ∧ k ≤ c' ∧ c' ≤ maxLen ∧ (a' = none → c' = 0) ∧ Below w.heap.size w w' := by
  subst hm
  have hc3 := hc2
  unfold maxLen at hc2
  have hki : (l.length : Int) - 4 = (k : Int) := by omega
  have hkl : k ≤ l.length := by omega
  have hkl4 : l.length - k = 4 := by omega
  obtain ⟨h, eh⟩ : ∃ h, Sl.sum (l.take k) = h := ⟨_, rfl⟩
  have en : Sl.num (l.drop k) = h := by
    have := (Sl.sealed_iff hb hn).1 ho
    rw [ek, eh] at this
    exact this
  have hh : h < 4294967296 := by rw [← eh]; exact Sl.sum_lt _
  have hnn : a = none → False := by
    intro e
    subst e
    have := ha.none_nil
    subst this
    simp at hn
  have HC : Hid (a = none → c = 0) := fun e => (hnn e).elim
  have HE : Hid (l.length - 4 = k) := ek
  have HA : Hid (Lst .u8 w a l) := ha
  have HB : Hid (Sl.Byt l) := hb
  have EH : Hid (Sl.sum (l.take k) = h) := eh
  have EN : Hid (Sl.num (l.drop k) = h) := en
  clear ek eh en ha hb ho hnn hc3
  go_enter Tryz.func46, Tryz.ntmps46
  go_wp2_with (first
    | (go_at_call 75; refine (number_any _ 4 _ (l.drop k) h (by have := HE.out; simp; omega) (by have := HE.out; simp; omega) EN.out _ (HA.out.behind k) (Sl.byt_dropn HB.out k)).mono ?_; rintro e w' ⟨rfl, hww⟩; cases hww.symm; clear hww)
    | (go_at_call 74; refine (sum_any a k _ (l.take k) h (by simp; omega) (by unfold maxLen; simp; omega) EH.out _ (HA.out.to k) (Sl.byt_take HB.out k)).mono ?_; rintro e w' ⟨rfl, hww⟩; cases hww.symm; clear hww)
    | (go_at_call 76; refine (clone_any a k _ (l.take k) (by simp; omega) (by simp; omega) _ (HA.out.to k) HC.out).mono ?_; rintro e w' ⟨a', c', rfl, h1, h2, h3, h4, h5, h6⟩; have R1 : Hid (Lst .u8 w' a' (l.take k) ∧ k ≤ c' ∧ c' ≤ maxLen ∧ (a' = none → c' = 0) ∧ Below w.heap.size w w') := ⟨h1, h2, h3, h4, h6⟩; clear h1 h2 h3 h4 h5 h6))
  go_ret2
  exact ⟨a', c', rfl, R1.out⟩
end Go.Proofs.YtimkfkolkplpdaaGreat
