/- Layer 6's fixed answers. -/
import Derived.Test.YteefkohogcghjaaSlReader
import Derived.Lib.SlBytesConst
namespace Go.Proofs.Yteefkohogcghjaa
set_option linter.unusedVariables false
open Go.RowKit

theorem Sl.byt_list {l : List Int} (h : ∀ x ∈ l, 0 ≤ x ∧ x < 256) : Sl.Byt l := by
  apply Sl.byt_mk
  intro i hi
  exact h _ (Ls.nth_mem hi)
theorem row_lst {w : World} {g : Nat} {t : TypeId} {n : Nat} {l : List Int} (h : w.rowIs g t n (fun j => .int .u8 (Ls.nth l j))) (hn : l.length = n) : Lst .u8 w (some ⟨g, 0, none⟩) l := by
  subst hn
  exact lst_of_row h (fun i hi => rfl)

theorem lst_marked {k : IntKind} (w : World) {t : TypeId} {fr : Nat × Nat} (l : List Int) : Lst k (w.alloc (.cells (l.map (Value.int k)).toArray t fr)) (some ⟨w.heap.size, 0, none⟩) l := lst_lit l (heap_alloc_new w _)
theorem slAwake_any (w : World) : Calls Try.prog 8 #[] w fun e w' => e = .returned (.bool true) ∧ Below w.heap.size w w' := by
  have kc := fun (w : World) (C : Array Value) (n c : Nat) => Lib.run_convert_bytes_const (P := Try.prog) w 22 5 C n c Try.underlying22 Try.underlying5
  go_enter Try.func8, Try.ntmps8
  go_wp2_with fail
  refine (close_any _ _ _ [97, 98] 6 rfl (by decide) rfl _ (lst_marked w [97, 98]) (Sl.byt_list (by decide))).mono ?_
  rintro e w1 ⟨g1, rfl, hg1, hr1, hb1⟩
  have B1 : Hid (Below w.heap.size w w1) := below_then (box_over w _) hb1
  have L1 : Hid (Lst .u8 w1 (some ⟨g1, 0, none⟩) (Sl.close [97, 98])) := row_lst hr1 rfl
  clear hr1 hb1 hg1
  go_wp2_with fail
  refine (open_ok _ 6 6 2 (Sl.close [97, 98]) rfl (by decide) (by decide) (by omega) (by unfold maxLen; omega) rfl _ L1.out (Sl.close_byt (Sl.byt_list (by decide))) (Sl.sealed_close _)).mono ?_
  rintro e w2 ⟨ab, cb, rfl, hb, _, _, _, hw2⟩
  have B2 : Hid (Below w.heap.size w w2) := below_then B1.out hw2
  have LB2 : Hid (Lst .u8 w2 ab [97, 98]) := hb
  clear hb hw2 B1 L1
  go_wp2_with fail
  refine (open_short _ 3 _ (by decide) _).mono ?_
  rintro e w3 ⟨rfl, hw3⟩
  have B3 : Hid (Below w.heap.size w w3) := by rw [hw3]; exact below_then B2.out (box_over w2 _)
  have LB3 : Hid (Lst .u8 w3 ab [97, 98]) := by rw [hw3]; exact LB2.out.keep (box_over w2 _)
  clear hw3 B2 LB2
  go_wp2_with fail
  refine (open_bad _ 4 _ [97, 98, 99, 100] rfl (by decide) (by decide) (by omega) (by unfold maxLen; omega) _ (lst_marked w3 [97, 98, 99, 100]) (Sl.byt_list (by decide)) (by decide)).mono ?_
  rintro e w4 ⟨rfl, hw4⟩
  have B4 : Hid (Below w.heap.size w w4) := by rw [hw4]; exact below_then B3.out (box_over w3 _)
  have LB4 : Hid (Lst .u8 w4 ab [97, 98]) := by rw [hw4]; exact LB3.out.keep (box_over w3 _)
  clear hw4 B3 LB3
  go_wp2_with fail
  refine (put_any _ 4 _ [255, 255, 255, 254] 66051 2 2 6 rfl (by decide) rfl rfl (by decide) _ (lst_marked w4 [255, 255, 255, 254])).mono ?_
  rintro e w5 ⟨g5, rfl, hg5, hr5, hb5⟩
  have B5 : Hid (Below w.heap.size w w5) := below_then B4.out (below_then (box_over w4 _) hb5)
  have LB5 : Hid (Lst .u8 w5 ab [97, 98]) := LB4.out.keep (below_then (box_over w4 _) hb5)
  have LP5 : Hid (Lst .u8 w5 (some ⟨g5, 0, none⟩) [255, 255, 255, 254, 2, 3]) := row_lst hr5 rfl
  clear hr5 hb5 hg5 B4 LB4
  go_wp2_with fail
  refine (newReader_any _ 6 _ [255, 255, 255, 254, 2, 3] rfl (by decide) _ LP5.out (Sl.byt_list (by decide)) (fun e => nomatch e)).mono ?_
  rintro e w6 ⟨g, rfl, hg, hr6, hb6⟩
  have B6 : Hid (Below w.heap.size w w6) := below_then B5.out hb6
  have LB6 : Hid (Lst .u8 w6 ab [97, 98]) := LB5.out.keep hb6
  have R6 : Hid (Rdr w6 g [255, 255, 255, 254, 2, 3] false) := hr6
  have G0 : Hid (w.heap.size ≤ g) := Nat.le_trans B5.out.size hg
  have GB : Hid (∀ x, ab = some x → x.block < g) := by
    intro x ex
    subst ex
    obtain ⟨b, o, e, hc⟩ := LB5.out 0 (by decide)
    cases e
    exact Nat.lt_of_lt_of_le (World.block_lt_of_cell? w5 _ hc) hg
  clear hb6 hr6 hg B5 LB5 LP5
  go_wp2_with fail
  refine (signed_any g _ _ (-2) (by decide) _ R6.out).mono ?_
  rintro e w7 ⟨rfl, hr7, hb7⟩
  have B7 : Hid (Below w.heap.size w w7) := B6.out.trans (hb7.mono G0.out)
  have LB7 : Hid (Lst .u8 w7 ab [97, 98]) := LB6.out.keepUnder GB.out hb7
  have R7 : Hid (Rdr w7 g [2, 3] false) := hr7
  clear hr7 hb7 B6 LB6 R6
  go_wp2_with fail
  refine (num_any g _ _ 2 2 515 rfl (by decide) _ R7.out).mono ?_
  rintro e w8 ⟨rfl, hr8, hb8⟩
  have B8 : Hid (Below w.heap.size w w8) := B7.out.trans (hb8.mono G0.out)
  have LB8 : Hid (Lst .u8 w8 ab [97, 98]) := LB7.out.keepUnder GB.out hb8
  have R8 : Hid (Rdr w8 g [] false) := hr8
  clear hr8 hb8 B7 LB7 R7
  have hcv : (convert 22 9 (.slice ab 2 cb)).run Try.prog w8 = .ok (.string ⟨#[97, 98]⟩) w8 := conv_text _ _ _ Try.underlying22 Try.underlying5 Try.underlying9 LB8.out (Sl.byt_list (by decide)) 2 cb rfl
  go_wp2_with (first
    | (go_at_call 11; refine (sum_any none 0 0 [] 2166136261 rfl (by decide) rfl _ (Lst.nil _ _ _) (Sl.byt_list (by decide))).mono ?_; rintro e w' ⟨rfl, hww⟩; cases hww.symm; clear hww)
    | (go_at_call 21; refine (left_any g [] false 0 rfl _ R8.out).mono ?_; rintro e w' ⟨rfl, hww⟩; cases hww.symm; clear hww)
    | (go_at_call 22; refine (short_any g [] false _ R8.out).mono ?_; rintro e w' ⟨rfl, hww⟩; cases hww.symm; clear hww)
    | (go_at_call 22; refine (short_any g [] true _ R9.out).mono ?_; rintro e w' ⟨rfl, hww⟩; cases hww.symm; clear hww)
    | (go_at_call 18; refine (take_any g [] false 1 1 0 rfl (by decide) rfl _ R8.out).mono ?_; rintro e w9 ⟨a9, c9, rfl, _, hr9, hb9⟩; have R9 : Hid (Rdr w9 g [] true) := hr9; have B9 : Hid (Below w.heap.size w w9) := B8.out.trans (hb9.mono G0.out); clear hr9 hb9))
  go_ret
  exact ⟨rfl, B9.out⟩
end Go.Proofs.Yteefkohogcghjaa
