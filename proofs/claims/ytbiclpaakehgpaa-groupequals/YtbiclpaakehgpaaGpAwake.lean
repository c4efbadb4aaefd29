/- Layer 7's fixed answers. -/
import Derived.Test.YtbiclpaakehgpaaGpOf
import Derived.Test.YtbiclpaakehgpaaGpRefOf
namespace Go.Proofs.Ytbiclpaakehgpaa
set_option linter.unusedVariables false
open Go.RowKit

/-- A GROUP LIES AT BLOCK g. -/
def Grp (w : World) (t : TypeId) (g : Nat) (z sc : Int) (v : Value) : Prop := w.rowIs g t 3 (gcell z sc v)
theorem Grp.lt {w : World} {t : TypeId} {g : Nat} {z sc : Int} {v : Value} (h : Grp w t g z sc v) : g < w.heap.size := World.rowIs.lt h
theorem Grp.keep {w w' : World} {t : TypeId} {g : Nat} {z sc : Int} {v : Value} (h : Grp w t g z sc v) (hb : Below w.heap.size w w') : Grp w' t g z sc v := World.rowIs.of_block h (hb.block g h.lt)
theorem Grp.cells {w : World} {t : TypeId} {g : Nat} {z sc : Int} {v : Value} (h : Grp w t g z sc v) : w.cell? ⟨g, 0, none⟩ = some (.int .i32 z) ∧ w.cell? ⟨g, 1, none⟩ = some (.int .u32 sc) ∧ w.cell? ⟨g, 2, none⟩ = some v :=
  ⟨World.rowIs.cell h (show 0 < 3 by decide), World.rowIs.cell h (show 1 < 3 by decide), World.rowIs.cell h (show 2 < 3 by decide)⟩
theorem grp_new (w : World) (z sc : Int) (v : Value) (t : TypeId) : Grp (w.alloc (.cells #[.int .i32 z, .int .u32 sc, v] t)) t w.heap.size z sc v := gcell_alloc w z sc v t
theorem box_over (w : World) (o : Obj) : Below w.heap.size w (w.alloc o) := box_below w o

theorem aw_in : Ls.In32 [0, 10, 30] := Ls.in32_mk (fun i hi => by
  match i, hi with
  | 0, _ => decide
  | 1, _ => decide
  | 2, _ => decide)
theorem aw_low : Gp.low [0, 10, 30] = 0 := by decide
theorem aw_scale : Gp.scale (3 : Nat) [0, 10, 30] = 10 := by decide
theorem aw_codes : Gp.codes 0 10 [0, 10, 30] = [0, 1, 3] := by decide
theorem aw_means : Gp.means 0 10 [0, 1, 3] = [0, 10, 30] := by decide

set_option maxHeartbeats 1600000 in
theorem gpAwake_any (w : World) :
    Calls Try.prog 9 #[] w fun e w' => e = .returned (.bool true) ∧ Below w.heap.size w w' := by
  go_enter Try.func9, Try.ntmps9
  go_wp2_with fail
  refine (of_ok _ 3 2 3 [0, 10, 30] _ (lst_new w [0, 10, 30]) aw_in (Or.inl ⟨rfl, rfl⟩) (by decide) (by decide) 0 10 aw_low aw_scale).mono ?_
  rintro e w1 ⟨g1, rfl, hg1, hL1, hb1⟩
  rw [aw_codes] at hL1
  have B1 : Hid (Below w.heap.size w w1) := below_then (box_over w _) hb1
  have L1 : Hid (Lst .i64 w1 (some ⟨g1, 0, none⟩) [0, 1, 3]) := hL1
  clear hg1 hL1 hb1
  simp only [List.length_cons, List.length_nil, Nat.zero_add, Nat.reduceAdd]
  go_wp2_with fail
  obtain ⟨w2, hw2⟩ : ∃ w2, w1.alloc (.cells #[.int .i32 0, .int .u32 10, .slice (some ⟨g1, 0, none⟩) 3 3] 27) = w2 := ⟨_, rfl⟩
  rw [hw2]
  have G2 : Hid (Grp w2 27 w1.heap.size 0 10 (.slice (some ⟨g1, 0, none⟩) 3 3)) := by rw [← hw2]; exact grp_new _ _ _ _ _
  have B2 : Hid (Below w.heap.size w w2) := by rw [← hw2]; exact below_then B1.out (box_over w1 _)
  have L2 : Hid (Lst .i64 w2 (some ⟨g1, 0, none⟩) [0, 1, 3]) := by rw [← hw2]; exact L1.out.keep (box_over w1 _)
  clear hw2 B1 L1
  refine (of_bad none 0 0 2 14 (by decide) (by decide) (by decide) _).mono ?_
  rintro e w3 ⟨rfl, hb3⟩
  have G3 : Hid (Grp w3 27 w1.heap.size 0 10 (.slice (some ⟨g1, 0, none⟩) 3 3)) := G2.out.keep hb3
  have B3 : Hid (Below w.heap.size w w3) := below_then B2.out hb3
  have L3 : Hid (Lst .i64 w3 (some ⟨g1, 0, none⟩) [0, 1, 3]) := L2.out.keep hb3
  have l3 := G3.out.lt
  have l3a : w1.heap.size < w3.heap.size + 1 := by omega
  have l3b : w1.heap.size < w3.heap.size + 1 + 1 := by omega
  obtain ⟨d0, d1, d2⟩ := G3.out.cells
  clear hb3 G2 B2 L2
  go_wp2_with fail
  clear d0 d1 d2
  obtain ⟨w4, hw4⟩ : ∃ w4, ((w3.alloc (.cells #[.int .i32 0, .int .u32 0, .slice none 0 0] 27)).alloc (.cells #[.int .i64 1] 3)).alloc (.cells #[.int .i32 1, .int .u32 0, .slice (some ⟨w3.heap.size + 1, 0, none⟩) 1 1] 27) = w4 := ⟨_, rfl⟩
  have b34 : Below w3.heap.size w3 w4 := by rw [← hw4]; exact (((Below.refl _ _).alloc (Nat.le_refl _) _).alloc (by simp) _).alloc (by simp; omega) _
  have G4 : Hid (Grp w4 27 w1.heap.size 0 10 (.slice (some ⟨g1, 0, none⟩) 3 3)) := G3.out.keep b34
  have H4 : Hid (Grp w4 27 (w3.heap.size + 1 + 1) 1 0 (.slice (some ⟨w3.heap.size + 1, 0, none⟩) 1 1)) := by
    have := grp_new ((w3.alloc (.cells #[.int .i32 0, .int .u32 0, .slice none 0 0] 27)).alloc (.cells #[.int .i64 1] 3)) 1 0 (.slice (some ⟨w3.heap.size + 1, 0, none⟩) 1 1) 27
    rw [hw4] at this
    rw [show ((w3.alloc (.cells #[.int .i32 0, .int .u32 0, .slice none 0 0] 27)).alloc (.cells #[.int .i64 1] 3)).heap.size = w3.heap.size + 1 + 1 by simp] at this
    exact this
  have M4 : Hid (Lst .i64 w4 (some ⟨w3.heap.size + 1, 0, none⟩) [1]) := by
    have := (lst_new (k := .i64) (w3.alloc (.cells #[.int .i32 0, .int .u32 0, .slice none 0 0] 27)) (t := 3) [1]).keep (box_over _ (.cells #[.int .i32 1, .int .u32 0, .slice (some ⟨w3.heap.size + 1, 0, none⟩) 1 1] 27))
    rw [show (w3.alloc (.cells #[.int .i32 0, .int .u32 0, .slice none 0 0] 27)).heap.size = w3.heap.size + 1 by simp] at this
    rw [← hw4]
    exact this
  have L4 : Hid (Lst .i64 w4 (some ⟨g1, 0, none⟩) [0, 1, 3]) := L3.out.keep b34
  have B4 : Hid (Below w.heap.size w w4) := below_then B3.out b34
  rw [hw4]
  clear hw4 b34 G3 L3 B3 l3 l3a l3b
  refine (back_any 0 10 _ 3 [0, 1, 3] _ L4.out (by decide) (by decide) (by decide) (by decide) (by decide) (by decide)).mono ?_
  rintro e w5 ⟨g5, rfl, hg5, hL5, hb5⟩
  rw [aw_means] at hL5
  simp only [List.length_cons, List.length_nil, Nat.zero_add, Nat.reduceAdd]
  have G5 : Hid (Grp w5 27 w1.heap.size 0 10 (.slice (some ⟨g1, 0, none⟩) 3 3)) := G4.out.keep hb5
  have H5 : Hid (Grp w5 27 (w3.heap.size + 1 + 1) 1 0 (.slice (some ⟨w3.heap.size + 1, 0, none⟩) 1 1)) := H4.out.keep hb5
  have M5 : Hid (Lst .i64 w5 (some ⟨w3.heap.size + 1, 0, none⟩) [1]) := M4.out.keep hb5
  have L5 : Hid (Lst .i64 w5 (some ⟨g1, 0, none⟩) [0, 1, 3]) := L4.out.keep hb5
  have B5 : Hid (Below w.heap.size w w5) := below_then B4.out hb5
  have N5 : Hid (Lst .i32 w5 (some ⟨g5, 0, none⟩) [0, 10, 30]) := hL5
  have n1 : w5.cell? ⟨g1, 2, none⟩ = some (.int .i64 3) := L5.out.cell0 (show 2 < 3 by decide)
  have n2 : w5.cell? ⟨g5, 2, none⟩ = some (.int .i32 30) := hL5.cell0 (show 2 < 3 by decide)
  obtain ⟨d0, d1, d2⟩ := G5.out.cells
  obtain ⟨h0, h1, h2⟩ := H5.out.cells
  clear hb5 hg5 hL5 G4 H4 M4 L4 B4
  go_wp2_with fail
  clear d0 d1 d2 h0 h1 h2 n1 n2
  refine (right_any 1 0 _ 1 2 3 [1] 21 _ M5.out (Or.inl ⟨rfl, rfl⟩) (by decide) (by decide) (by decide) (by decide) (by decide)).mono ?_
  rintro e w6 ⟨rfl, hb6⟩
  have G6 : Hid (Grp w6 27 w1.heap.size 0 10 (.slice (some ⟨g1, 0, none⟩) 3 3)) := G5.out.keep hb6
  have H6 : Hid (Grp w6 27 (w3.heap.size + 1 + 1) 1 0 (.slice (some ⟨w3.heap.size + 1, 0, none⟩) 1 1)) := H5.out.keep hb6
  have M6 : Hid (Lst .i64 w6 (some ⟨w3.heap.size + 1, 0, none⟩) [1]) := M5.out.keep hb6
  have L6 : Hid (Lst .i64 w6 (some ⟨g1, 0, none⟩) [0, 1, 3]) := L5.out.keep hb6
  have N6 : Hid (Lst .i32 w6 (some ⟨g5, 0, none⟩) [0, 10, 30]) := N5.out.keep hb6
  have B6 : Hid (Below w.heap.size w w6) := below_then B5.out hb6
  have n2 : w6.cell? ⟨g5, 2, none⟩ = some (.int .i32 30) := N6.out.cell0 (show 2 < 3 by decide)
  obtain ⟨d0, d1, d2⟩ := G6.out.cells
  clear hb6 G5 H5 M5 L5 B5 N5
  go_wp2_with fail
  clear d0 d1 d2 n2
  refine (one_any 0 10 2 _ 3 3 (by decide) (by decide) (by decide) (by decide) (by decide) (by decide) _).mono ?_
  rintro e w7 ⟨rfl, hb7⟩
  rw [show Gp.mean 0 10 2 = 20 by decide]
  have G7 : Hid (Grp w7 27 w1.heap.size 0 10 (.slice (some ⟨g1, 0, none⟩) 3 3)) := G6.out.keep hb7
  have H7 : Hid (Grp w7 27 (w3.heap.size + 1 + 1) 1 0 (.slice (some ⟨w3.heap.size + 1, 0, none⟩) 1 1)) := H6.out.keep hb7
  have M7 : Hid (Lst .i64 w7 (some ⟨w3.heap.size + 1, 0, none⟩) [1]) := M6.out.keep hb7
  have L7 : Hid (Lst .i64 w7 (some ⟨g1, 0, none⟩) [0, 1, 3]) := L6.out.keep hb7
  have B7 : Hid (Below w.heap.size w w7) := below_then B6.out hb7
  obtain ⟨d0, d1, d2⟩ := G7.out.cells
  clear hb7 G6 H6 M6 L6 B6 N6
  go_wp2_with fail
  clear d0 d1 d2
  refine (equal_any 0 10 0 10 _ _ 3 3 [0, 1, 3] [0, 1, 3] _ L7.out L7.out (by decide) true (by decide)).mono ?_
  rintro e w8 ⟨rfl, hb8⟩
  have G8 : Hid (Grp w8 27 w1.heap.size 0 10 (.slice (some ⟨g1, 0, none⟩) 3 3)) := G7.out.keep hb8
  have H8 : Hid (Grp w8 27 (w3.heap.size + 1 + 1) 1 0 (.slice (some ⟨w3.heap.size + 1, 0, none⟩) 1 1)) := H7.out.keep hb8
  have M8 : Hid (Lst .i64 w8 (some ⟨w3.heap.size + 1, 0, none⟩) [1]) := M7.out.keep hb8
  have L8 : Hid (Lst .i64 w8 (some ⟨g1, 0, none⟩) [0, 1, 3]) := L7.out.keep hb8
  have B8 : Hid (Below w.heap.size w w8) := below_then B7.out hb8
  obtain ⟨d0, d1, d2⟩ := G8.out.cells
  obtain ⟨h0, h1, h2⟩ := H8.out.cells
  clear hb8 G7 H7 M7 L7 B7
  go_wp2_with fail
  clear d0 d1 d2 h0 h1 h2
  refine (equal_any 0 10 1 0 _ _ 3 1 [0, 1, 3] [1] _ L8.out M8.out (by decide) false (by decide)).mono ?_
  rintro e w9 ⟨rfl, hb9⟩
  have B9 : Hid (Below w.heap.size w w9) := below_then B8.out hb9
  clear hb9 G8 H8 M8 L8 B8
  go_wp2
  go_ret
  exact ⟨rfl, B9.out⟩
end Go.Proofs.Ytbiclpaakehgpaa
