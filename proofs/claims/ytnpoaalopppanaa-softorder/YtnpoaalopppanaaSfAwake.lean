/- Layer 4's fixed answers. -/
import Derived.Test.YtnpoaalopppanaaSfRefs
namespace Go.Proofs.Ytnpoaalopppanaa
set_option linter.unusedVariables false
open Go.RowKit

theorem tbl_two {w : World} {g : Nat} {t : TypeId} {fr : Nat × Nat} {A B : Option Addr} {C D : Nat} {x y : List Int} (h : w.heap[g]? = some (.cells #[.slice A x.length C, .slice B y.length D] t fr))
    (hx : Lst .i32 w A x) (hy : Lst .i32 w B y) (h1 : x.length ≤ maxLen) (h2 : y.length ≤ maxLen) : Tbl w (some ⟨g, 0, none⟩) [x, y] := by
  intro i hi
  have hi : i < 2 := hi
  rcases (show i = 0 ∨ i = 1 by omega) with rfl | rfl
  · exact ⟨g, 0, A, C, rfl, by rw [cell_of_row w g _ _ t fr h]; rfl, hx, h1⟩
  · exact ⟨g, 0, B, D, rfl, by rw [cell_of_row w g _ _ t fr h]; rfl, hy, h2⟩
theorem tbl_one {w : World} {g : Nat} {t : TypeId} {fr : Nat × Nat} {A : Option Addr} {C : Nat} {x : List Int} (h : w.heap[g]? = some (.cells #[.slice A x.length C] t fr))
    (hx : Lst .i32 w A x) (h1 : x.length ≤ maxLen) : Tbl w (some ⟨g, 0, none⟩) [x] := by
  intro i hi
  have hi : i < 1 := hi
  obtain rfl : i = 0 := by omega
  exact ⟨g, 0, A, C, rfl, by rw [cell_of_row w g _ _ t fr h]; rfl, hx, h1⟩
theorem heap_at {w : World} {g : Nat} {o : Obj} (h : g = w.heap.size) : (w.alloc o).heap[g]? = some o := by subst h; exact heap_alloc_new w o
theorem lst_at {k : IntKind} {w : World} {t : TypeId} {g : Nat} (l : List Int) (h : g = w.heap.size) : Lst k (w.alloc (.cells (l.map (Value.int k)).toArray t)) (some ⟨g, 0, none⟩) l := by subst h; exact lst_new w l

set_option maxHeartbeats 1600000 in
theorem sfAwake_any (w : World) : Calls Try.prog 8 #[] w fun e w' => e = .returned (.bool true) ∧ Below w.heap.size w w' := by
  go_enter Try.func8, Try.ntmps8
  go_wp2_with fail
  refine (weights_ok _ _ [5, 5] _ (lst_new w [5, 5]) (by decide) (by decide) (Ls.in32_mk (by decide))).mono ?_
  rintro e w1 ⟨g1, rfl, _, hL1, hB1⟩
  have hb1 : Below w.heap.size w w1 := below_then (box_below _ _) hB1
  have HL1 : Hid (Lst .i64 w1 (some ⟨g1, 0, none⟩) (Tb.weights [5, 5])) := hL1
  clear hB1 hL1
  go_wp2_with fail
  refine (mix_ok _ _ _ _ [65536, 65536] [[2], [4]] _ ((((lst_new w1 [65536, 65536]).keep (box_below _ _)).keep (box_below _ _)).keep (box_below _ _))
    (tbl_two (x := [2]) (y := [4]) (heap_at (by simp)) (((lst_at [2] (by simp)).keep (box_below _ _)).keep (box_below _ _)) ((lst_at [4] (by simp)).keep (box_below _ _)) (by decide) (by decide)) (by decide) (by decide)).mono ?_
  rintro e w2 ⟨g2, rfl, _, hL2, hB2⟩
  have bb := below_then (below_then (below_then (below_then (box_below _ _) (box_below _ _)) (box_below _ _)) (box_below _ _)) hB2
  have hb2 : Below w.heap.size w w2 := below_then hb1 bb
  have HL1b : Hid (Lst .i64 w2 (some ⟨g1, 0, none⟩) (Tb.weights [5, 5])) := HL1.out.keep bb
  have HL2 : Hid (Lst .i32 w2 (some ⟨g2, 0, none⟩) (Tb.mean [65536, 65536] [[2], [4]])) := hL2
  clear hB2 hL2 HL1 bb hb1
  rw [show (Tb.row [[2], [4]] 0).length = 1 from rfl]
  go_wp2_with fail
  refine (weights_none _ _ _).mono ?_
  rintro e w' ⟨rfl, hww⟩
  cases hww.symm
  clear hww
  go_wp2_with fail
  refine (mix_range _ _ _ _ [0] [[2]] _ (((lst_new w2 [0]).keep (box_below _ _)).keep (box_below _ _)) (tbl_one (x := [2]) (heap_at (by simp)) ((lst_at [2] (by simp)).keep (box_below _ _)) (by decide)) (by decide) (by decide)).mono ?_
  rintro e w3 ⟨rfl, hw⟩
  have bb : Below w2.heap.size w2 w3 := by rw [hw]; exact below_then (below_then (box_below _ _) (box_below _ _)) (box_below _ _)
  have hb3 : Below w.heap.size w w3 := below_then hb2 bb
  have L1 := HL1b.out.keep bb
  have L2 := HL2.out.keep bb
  clear hw hb2 bb HL1b HL2
  have c1 : w3.cell? ⟨g1, 1, none⟩ = some (.int .i64 65536) := L1.cell0 (i := 1) (by decide)
  have c2 : w3.cell? ⟨g2, 0, none⟩ = some (.int .i32 3) := L2.cell0 (i := 0) (by decide)
  clear L1 L2
  go_wp2_with fail
  refine (sum_any _ _ [1, 2] _ (lst_new w3 [1, 2]) (Tb.wts_mk (by decide)) (by decide)).mono ?_
  rintro e w4 ⟨rfl, hw⟩
  have hb4 : Below w.heap.size w w4 := by rw [hw]; exact below_then hb3 (box_below _ _)
  clear hw hb3 c1 c2
  rw [show Tb.sum [1, 2] = 3 from by decide]
  go_wp2
  go_ret
  exact ⟨rfl, hb4⟩
end Go.Proofs.Ytnpoaalopppanaa
