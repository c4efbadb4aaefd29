/- Layer 3's fixed answers. -/
import Derived.Test.YtjeekibddmdgmaaDtRefs
namespace Go.Proofs.Ytjeekibddmdgmaa
set_option linter.unusedVariables false
open Go.RowKit

theorem lst_lit {k : IntKind} {w : World} {g : Nat} {t : TypeId} {fr : Nat × Nat} (l : List Int) (h : w.heap[g]? = some (.cells (l.map (Value.int k)).toArray t fr)) : Lst k w (some ⟨g, 0, none⟩) l := by
  intro i hi
  refine ⟨g, 0, rfl, ?_⟩
  rw [Nat.zero_add, cell_of_row w g i _ t fr h]
  simp [Ls.nth, hi]
theorem lst_new {k : IntKind} (w : World) {t : TypeId} (l : List Int) : Lst k (w.alloc (.cells (l.map (Value.int k)).toArray t)) (some ⟨w.heap.size, 0, none⟩) l := lst_lit l (heap_alloc_new w _)
theorem lst_new1 {k : IntKind} (w : World) {t : TypeId} {g : Nat} (l : List Int) (h : g = w.heap.size) : Lst k (w.alloc (.cells (l.map (Value.int k)).toArray t)) (some ⟨g, 0, none⟩) l := by subst h; exact lst_new w l

theorem Lst.cell0 {k : IntKind} {w : World} {g : Nat} {l : List Int} (h : Lst k w (some ⟨g, 0, none⟩) l) {i : Nat} (hi : i < l.length) : w.cell? ⟨g, i, none⟩ = some (.int k (Ls.nth l i)) := by
  obtain ⟨b, o, e, hc⟩ := h i hi
  simp at e
  obtain ⟨rfl, rfl⟩ := e
  simpa using hc

set_option maxHeartbeats 1600000 in
theorem dtAwake_any (w : World) : Calls Try.prog 10 #[] w fun e w' => e = .returned (.bool true) ∧ Below w.heap.size w w' := by
  have t1 : Hid (Ls.dot [1, 2] [3, 4] = 11) := by show _ = _; decide
  go_enter Try.func10, Try.ntmps10
  go_wp2_with fail
  refine (dot_ok _ _ _ _ [1, 2] [3, 4] _ ((lst_new w [1, 2]).keep (box_below _ _)) (lst_new1 _ [3, 4] (by simp)) rfl (by decide) (by decide)).mono ?_
  rintro e w' ⟨rfl, hw⟩
  rw [t1.out]
  have hb : Below w.heap.size w w' := by rw [hw]; exact below_then (box_below _ _) (box_below _ _)
  clear hw
  go_wp2_with fail
  refine (dot_bad _ _ 1 _ 0 _ _ (by omega)).mono ?_
  rintro e w1 ⟨rfl, hw⟩
  have hb1 : Below w.heap.size w w1 := by rw [hw]; exact below_then hb (box_below _ _)
  rw [show shapeN 1 0 = 25 from rfl]
  clear hw hb
  go_wp2_with fail
  refine (dot_range _ _ _ _ [33554432] [1] _ ((lst_new w1 [33554432]).keep (box_below _ _)) (lst_new1 _ [1] (by simp)) rfl (by decide) (by decide)).mono ?_
  rintro e w2 ⟨rfl, hw⟩
  have hb2 : Below w.heap.size w w2 := by rw [hw]; exact below_then hb1 (below_then (box_below _ _) (box_below _ _))
  clear hw hb1
  go_wp2_with fail
  refine (add_ok _ _ _ _ [8388608, -1] [1, 5] _ ((lst_new w2 [8388608, -1]).keep (box_below _ _)) (lst_new1 _ [1, 5] (by simp)) rfl (by decide) (Ls.in32_mk (by decide)) (Ls.in32_mk (by decide))).mono ?_
  rintro e w3 ⟨g3, rfl, _, hL3, hB3⟩
  have hb3 : Below w.heap.size w w3 := below_then hb2 (below_then (below_then (box_below _ _) (box_below _ _)) hB3)
  clear hB3 hb2
  have HL3 : Hid (Lst .i32 w3 (some ⟨g3, 0, none⟩) (Ls.add [8388608, -1] [1, 5])) := hL3
  clear hL3
  go_wp2_with fail
  refine (times_ok _ _ _ [6] _ (lst_new w3 [6]) (by decide) (Ls.in32_mk (by decide)) (by omega) (by omega)).mono ?_
  rintro e w4 ⟨g4, rfl, _, hL4, hB4⟩
  have bb := below_then (box_below _ _) hB4
  have hb4 : Below w.heap.size w w4 := below_then hb3 bb
  have HL3b : Hid (Lst .i32 w4 (some ⟨g3, 0, none⟩) (Ls.add [8388608, -1] [1, 5])) := HL3.out.keep bb
  have HL4 : Hid (Lst .i32 w4 (some ⟨g4, 0, none⟩) (Ls.times [6] 32768)) := hL4
  clear hB4 hb3 HL3 hL4 bb
  go_wp2_with fail
  refine (by_ok _ _ _ _ [6] [98304] _ ((lst_new w4 [6]).keep (box_below _ _)) (lst_new1 _ [98304] (by simp)) rfl (by decide) (Ls.in32_mk (by decide)) (Ls.in32_mk (by decide))).mono ?_
  rintro e w5 ⟨g5, rfl, _, hL5, hB5⟩
  have bb := below_then (below_then (box_below _ _) (box_below _ _)) hB5
  have hb5 : Below w.heap.size w w5 := below_then hb4 bb
  have HL3 : Hid (Lst .i32 w5 (some ⟨g3, 0, none⟩) (Ls.add [8388608, -1] [1, 5])) := HL3b.out.keep bb
  have HL4b : Hid (Lst .i32 w5 (some ⟨g4, 0, none⟩) (Ls.times [6] 32768)) := HL4.out.keep bb
  have HL5 : Hid (Lst .i32 w5 (some ⟨g5, 0, none⟩) (Ls.by [6] [98304])) := hL5
  clear hB5 hb4 HL3b HL4 hL5 bb
  go_wp2_with fail
  refine (top_any _ _ [3, 9, 9] _ (lst_new w5 [3, 9, 9]) (by decide) (by decide)).mono ?_
  rintro e w6 ⟨rfl, n6, hw⟩
  have bb : Below w5.heap.size w5 w6 := by rw [hw]; exact below_drewN (box_below _ _) _
  have hb6 : Below w.heap.size w w6 := below_then hb5 bb
  have L3 := HL3.out.keep bb
  have L4 := HL4b.out.keep bb
  have L5 := HL5.out.keep bb
  clear hw hb5 bb HL3 HL4b HL5
  have c30 : w6.cell? ⟨g3, 0, none⟩ = some (.int .i32 8388608) := L3.cell0 (i := 0) (by decide)
  have c31 : w6.cell? ⟨g3, 1, none⟩ = some (.int .i32 4) := L3.cell0 (i := 1) (by decide)
  have c4 : w6.cell? ⟨g4, 0, none⟩ = some (.int .i32 3) := L4.cell0 (i := 0) (by decide)
  have c5 : w6.cell? ⟨g5, 0, none⟩ = some (.int .i32 9) := L5.cell0 (i := 0) (by decide)
  clear L3 L4 L5
  rw [show Ls.top [3, 9, 9] = 1 from by decide, show Ls.nth [3, 9, 9] 1 = 9 from rfl]
  go_wp2_with fail
  refine (mild_any _ _ [16777216] _ (lst_new w6 [16777216]) (by decide)).mono ?_
  rintro e w7 ⟨rfl, hw⟩
  have hb7 : Below w.heap.size w w7 := by rw [hw]; exact below_then hb6 (box_below _ _)
  clear hw hb6 c30 c31 c4 c5
  rw [show Ls.mild [16777216] = true from by decide]
  go_wp2
  go_ret
  exact ⟨rfl, hb7⟩
end Go.Proofs.Ytjeekibddmdgmaa
