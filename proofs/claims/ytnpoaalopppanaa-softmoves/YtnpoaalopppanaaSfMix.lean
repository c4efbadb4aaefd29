/- Contracts of the mean of lists (package soft), and of the document's own weights and mean. -/
import Derived.Test.YtnpoaalopppanaaSfMakes
import Derived.Test.YtnpoaalopppanaaSfRight
namespace Go.Proofs.Ytnpoaalopppanaa
set_option linter.unusedVariables false
open Go.RowKit
attribute [local go_sem ↓] Go.wp_at_zero Go.wp_at_succ

theorem row_drewN {w : World} {g : Nat} {t : TypeId} {n : Nat} {f : Nat → Value} (h : w.rowIs g t n f) (m : Nat) : (w.drewN m).rowIs g t n f := by
  induction m with
  | zero => exact h
  | succ m ih => simpa [World.rowIs] using h

theorem mix_bad (a b : Option Addr) (m c d : Nat) (ls : List (List Int)) (w : World) (hb : Tbl w b ls) (h : ¬ Tb.shape m ls = 0) :
    Calls Try.prog 15 #[.slice a m c, .slice b ls.length d] w fun e w' => e = .returned (.tuple #[.slice none 0 0, .int .i64 (Tb.shape m ls)]) ∧ w' = w := by
  have HB : Hid (Tbl w b ls) := hb
  have hs : (Tb.shape m ls != 0) = true := bne_iff_ne.2 h
  clear hb h
  go_enter Try.func15, Try.ntmps15
  go_wp2_with (go_at_call 24; refine (shape_any _ _ _ _ _ _ _ HB.out).mono ?_; rintro e w' ⟨rfl, rfl⟩)
  go_ret2
  exact ⟨rfl, rfl⟩

theorem mix_range (a b : Option Addr) (c d : Nat) (x : List Int) (ls : List (List Int)) (w : World) (ha : Lst .i64 w a x) (hb : Tbl w b ls) (hs : Tb.shape x.length ls = 0) (h : Tb.fit x ls = false) :
    Calls Try.prog 15 #[.slice a x.length c, .slice b ls.length d] w fun e w' => e = .returned (.tuple #[.slice none 0 0, .int .i64 11]) ∧ w' = w := by
  have HA : Hid (Lst .i64 w a x) := ha
  have HB : Hid (Tbl w b ls) := hb
  obtain ⟨hp, hl, hxl, he⟩ := Tb.shape_zero hs
  have hx : x.length ≤ 1024 := by omega
  clear ha hb hxl he
  cases hw : Tb.weigh x
  · clear h
    go_enter Try.func15, Try.ntmps15
    go_wp2_with (first
      | (go_at_call 24; refine (shape_any _ _ _ _ _ _ _ HB.out).mono ?_; rintro e w' ⟨rfl, rfl⟩)
      | (go_at_call 25; refine (weighable_any _ _ _ _ HA.out hx).mono ?_; rintro e w' ⟨rfl, rfl⟩))
    go_ret2
    exact ⟨rfl, rfl⟩
  · have hm : Tb.milds ls = false := by unfold Tb.fit at h; rw [hw] at h; simpa using h
    clear h
    go_enter Try.func15, Try.ntmps15
    go_wp2_with (first
      | (go_at_call 24; refine (shape_any _ _ _ _ _ _ _ HB.out).mono ?_; rintro e w' ⟨rfl, rfl⟩)
      | (go_at_call 25; refine (weighable_any _ _ _ _ HA.out hx).mono ?_; rintro e w' ⟨rfl, rfl⟩)
      | (go_at_call 26; refine (allMild_any _ _ _ _ HB.out hl).mono ?_; rintro e w' ⟨rfl, rfl⟩))
    go_ret2
    exact ⟨rfl, rfl⟩

set_option maxHeartbeats 800000 in
theorem mix_ok (a b : Option Addr) (c d : Nat) (x : List Int) (ls : List (List Int)) (w : World) (ha : Lst .i64 w a x) (hb : Tbl w b ls) (hs : Tb.shape x.length ls = 0) (h : Tb.fit x ls = true) :
    Calls Try.prog 15 #[.slice a x.length c, .slice b ls.length d] w fun e w' => ∃ g, e = .returned (.tuple #[.slice (some ⟨g, 0, none⟩) (Tb.row ls 0).length (Tb.row ls 0).length, .int .i64 0]) ∧ w.heap.size ≤ g ∧
      Lst .i32 w' (some ⟨g, 0, none⟩) (Tb.mean x ls) ∧ Below w.heap.size w w' := by
  have HA : Hid (Lst .i64 w a x) := ha
  have HB : Hid (Tbl w b ls) := hb
  obtain ⟨hp, hl, hxl, he⟩ := Tb.shape_zero hs
  obtain ⟨hw, hm⟩ := Tb.fit_both h
  have hx : x.length ≤ 1024 := by omega
  have HXL : Hid (x.length = ls.length) := hxl
  have HE : Hid (Tb.even ls = true) := he
  have HW : Hid (Tb.Wts x) := Tb.weigh_wts hw
  have HM : Hid (Tb.Milds ls) := Tb.milds_all hm
  have hs1 := Tb.weigh_sum hw
  have hs2 := Tb.sum_bd HW.out (by omega)
  have hr0 := Ls.mild_len (HM.out 0)
  clear ha hb hxl he h
  have hmk := run_make_row' (P := Try.prog) 22 21 (.int .i32 0) 4 Try.underlying22 Try.infoInt32 rfl .i64 .i64 (Tb.row ls 0).length (by omega) (by omega)
  go_enter Try.func15, Try.ntmps15
  go_wp2_with (first
    | (go_at_call 24; refine (shape_any _ _ _ _ _ _ _ HB.out).mono ?_; rintro e w' ⟨rfl, hww⟩; cases hww.symm; clear hww)
    | (go_at_call 25; refine (weighable_any _ _ _ _ HA.out hx).mono ?_; rintro e w' ⟨rfl, hww⟩; cases hww.symm; clear hww)
    | (go_at_call 26; refine (allMild_any _ _ _ _ HB.out hl).mono ?_; rintro e w' ⟨rfl, hww⟩; cases hww.symm; clear hww)
    | (go_at_call 13; refine (sum_any _ _ _ _ HA.out HW.out (by omega)).mono ?_; rintro e w' ⟨rfl, hww⟩; cases hww.symm; clear hww))
  refine (weighed_ok _ _ _ _ _ _ _ HA.out HB.out hp hl HXL.out HE.out HW.out HM.out).mono ?_
  rintro e w1 ⟨g1, rfl, hg1, hL1, hB1⟩
  have HL : Hid (Lst .i64 w1 (some ⟨g1, 0, none⟩) (Ls.gen (Tb.row ls 0).length (Tb.mix x ls))) := hL1
  have HB1 : Hid (Below w.heap.size w w1) := hB1
  have hsz := hB1.size
  clear hL1 hB1 hw hm hs
  go_wp2
  clear hmk
  go_loopw [36] (fun i wr => ∃ k : Nat, k ≤ (Tb.row ls 0).length ∧ i = .int .i64 k ∧ wr.rowIs w1.heap.size 21 (Tb.row ls 0).length (part (Tb.place x ls) k) ∧ Below w1.heap.size w1 wr) (fun i _ => (Tb.row ls 0).length - (intOf i).toNat)
  case atStart => exact ⟨0, Nat.zero_le _, rfl, (World.rowIs_made w1 (.int .i32 0) (Tb.row ls 0).length 21).congr (fun j hj => by simp [part]), (Below.refl _ _).alloc (Nat.le_refl _) _⟩
  case round =>
    obtain ⟨k, hk, rfl, hrow, hbel⟩ := hrel
    by_cases hlt : k < (Tb.row ls 0).length
    · have hck1 := (HL.out.keep hbel).cell0 (i := k) (by rw [Ls.gen_length]; exact hlt)
      rw [Ls.nth_gen hlt] at hck1
      have hcg := hrow.cell hlt
      have hfg := hrow.frozen k
      have HR : Hid (wr.rowIs w1.heap.size 21 (Tb.row ls 0).length (part (Tb.place x ls) k)) := hrow
      have HBB : Hid (Below w1.heap.size w1 wr) := hbel
      clear hrow hbel
      have hb := Tb.mix_bd HW.out HM.out hl k
      go_wp2_with fail
      refine (ratio_any _ _ (by omega) (by omega) hs1 (by omega) _).mono ?_
      rintro e w2 ⟨rfl, n2, rfl⟩
      go_wp2_with (go_at_call 28; refine (narrow_any _ _).mono ?_; rintro e w' ⟨rfl, rfl⟩)
      go_roundw
      case rel => exact ⟨k + 1, by omega, by go_num, ((row_drewN HR.out n2).set k _).congr (fun j hj => part_set (Tb.place x ls) k j), (below_drewN HBB.out n2).setCell (by simp) _⟩
      case measure => simp [intOf]; omega
    · go_wp2
      go_ret2
      have e : k = (Tb.row ls 0).length := by omega
      subst e
      refine ⟨w1.heap.size, rfl, hsz, ?_, below_then HB1.out hbel⟩
      refine lst_of_row (f := part (Tb.place x ls) (Tb.row ls 0).length) (t := 21) (by rw [Tb.mean_length]; exact hrow) (fun i hi => ?_)
      rw [Tb.mean_length] at hi
      rw [part_lt hi, Tb.nth_mean hi]

theorem mix_okm (a b : Option Addr) (m c d : Nat) (x : List Int) (ls : List (List Int)) (w : World) (hm : m = x.length) (ha : Lst .i64 w a x) (hb : Tbl w b ls) (hs : Tb.shape x.length ls = 0) (h : Tb.fit x ls = true) :
    Calls Try.prog 15 #[.slice a m c, .slice b ls.length d] w fun e w' => ∃ g, e = .returned (.tuple #[.slice (some ⟨g, 0, none⟩) (Tb.row ls 0).length (Tb.row ls 0).length, .int .i64 0]) ∧ w.heap.size ≤ g ∧
      Lst .i32 w' (some ⟨g, 0, none⟩) (Tb.mean x ls) ∧ Below w.heap.size w w' := by
  subst hm
  exact mix_ok a b c d x ls w ha hb hs h

theorem mix_okmm (a b : Option Addr) (m n c d : Nat) (x : List Int) (ls : List (List Int)) (w : World) (hm : m = x.length) (hn : n = ls.length) (ha : Lst .i64 w a x) (hb : Tbl w b ls) (hs : Tb.shape x.length ls = 0) (h : Tb.fit x ls = true) :
    Calls Try.prog 15 #[.slice a m c, .slice b n d] w fun e w' => ∃ g, e = .returned (.tuple #[.slice (some ⟨g, 0, none⟩) (Tb.row ls 0).length (Tb.row ls 0).length, .int .i64 0]) ∧ w.heap.size ≤ g ∧
      Lst .i32 w' (some ⟨g, 0, none⟩) (Tb.mean x ls) ∧ Below w.heap.size w w' := by
  subst hm hn
  exact mix_ok a b c d x ls w ha hb hs h
end Go.Proofs.Ytnpoaalopppanaa
