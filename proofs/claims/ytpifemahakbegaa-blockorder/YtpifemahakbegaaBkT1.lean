/- One call of layer 11's law: Add, where there is no such row. -/
import Derived.Test.YtpifemahakbegaaBkT0
namespace Go.Proofs.Ytpifemahakbegaa
set_option linter.unusedVariables false
set_option linter.unusedSimpArgs false
open Go.RowKit

set_option maxRecDepth 100000 in
set_option maxHeartbeats 3200000 in
theorem step1_neg (B P n m k g b at' : Nat) (tb row N : Int) (R M : List Int) (s1 s2 va vr : Value) (T : Nat → Nat) (D : Nat → Value) (L : Nat → Nat → List Int) (col : Nat → Nat) (w : World) (hC : Core w n m k g b R M T L col) (hD : Docs w n m k R M s1 s2 D L col) (hB : Box B w P g k s1 s2 va vr T D col) (hF : Fresh B w col)
    (hmx : max tb 0 % (k : Int) = (at' : Int)) (hk : 0 < k) (hk6 : k ≤ 6) (hm : m ≤ 16) (hn : n ≤ 16384) (hr : row < 0) :
    Calls Try.prog 9 #[.pointer (some ⟨P, 0, none⟩), .agg #[.int .i64 1, .int .i64 tb, .int .i64 row, .int .i64 N]] w fun e w' => e = .returned (.bool true) ∧ Below w.heap.size w w' := by
  have hlt : at' < k := by have := Int.emod_lt_of_pos (max tb 0) (show (0 : Int) < k by omega); omega
  obtain ⟨ab, ac, rb, rc, rfl, rfl, t0, d0, l1, l2⟩ := hB.cells hlt
  obtain ⟨da, dc, ed⟩ := (hD.2 at' hlt).slice
  rw [ed] at d0
  obtain ⟨⟨p0, p1, p2, p3, p4⟩, _⟩ := pl_cells hB.1
  obtain ⟨a1, c1, a2, c2, ei, ej, _⟩ := hD.1
  subst ei ej
  have plt : P < w.heap.size := hB.1.lt
  have HC : Hid (Core w n m k g b R M T L col) := hC
  have HD : Hid (Docs w n m k R M (.slice a1 n c1) (.slice a2 n c2) D L col) := hD
  have HB : Hid (Box B w P g k (.slice a1 n c1) (.slice a2 n c2) (.slice (some ⟨ab, 0, none⟩) k ac) (.slice (some ⟨rb, 0, none⟩) k rc) T D col) := hB
  have HF : Hid (Fresh B w col) := hF
  have HE : Hid (D at' = .slice da m dc) := ed
  have HR : Hid (¬ (0 ≤ row ∧ row < m)) := fun q => by omega
  have z : decide (0 ≤ row) = false := decide_eq_false (by omega)
  clear hr
  clear hC hD hB hF p0 ed
  obtain ⟨H, eH⟩ : ∃ H, w.heap.size = H := ⟨_, rfl⟩
  have EH : Hid (w.heap.size = H) := eH
  go_enter Try.func9, Try.ntmps9
  clear eH
  go_wp2
  go_region
  go_wp2
  go_region
  obtain ⟨u, hu⟩ : ∃ u, (w.alloc (.cells #[.int .i64 1, .int .i64 tb, .int .i64 row, .int .i64 N] 27)).drew.drew = u := ⟨_, rfl⟩
  have UB : Hid (Below w.heap.size w u) := by rw [← hu]; exact (box_below _ _).drew.drew
  have UO : Hid (u.rowIs H 27 4 (opc 1 tb row N)) := by rw [← hu, ← EH.out]; exact (op_alloc w 1 tb row N).drew.drew
  have US : u.heap.size = H + 1 := by rw [← hu, ← EH.out]; simp
  have CU : Hid (Core u n m k g b R M T L col) := HC.out.keep UB.out
  have DU : Hid (Docs u n m k R M (.slice a1 n c1) (.slice a2 n c2) D L col) := HD.out.keep UB.out
  have BU : Hid (Box B u P g k (.slice a1 n c1) (.slice a2 n c2) (.slice (some ⟨ab, 0, none⟩) k ac) (.slice (some ⟨rb, 0, none⟩) k rc) T D col) := HB.out.keep UB.out
  have FU : Hid (Fresh B u col) := HF.out.keep UB.out.size
  have q0 : u.cell? ⟨H, 0, none⟩ = some (.int .i64 1) := UO.out.cell (show 0 < 4 by decide)
  have q2 : u.cell? ⟨H, 2, none⟩ = some (.int .i64 row) := UO.out.cell (show 2 < 4 by decide)
  have q3 : u.cell? ⟨H, 3, none⟩ = some (.int .i64 N) := UO.out.cell (show 3 < 4 by decide)
  have Q2 : Hid (u.cell? ⟨H, 2, none⟩ = some (.int .i64 row)) := q2
  have Q3 : Hid (u.cell? ⟨H, 3, none⟩ = some (.int .i64 N)) := q3
  have Hlt : H < u.heap.size := by omega
  clear t0 d0 p1 p2 p3 p4 l1 l2
  rw [hu, EH.out]
  clear hu
  go_wp2
  go_region_held3 (fun w' => w'.cell? ⟨H, 2, none⟩ = some (.int .i64 row) ∧ w'.cell? ⟨H, 3, none⟩ = some (.int .i64 N))
    (first
      | exact ⟨q2, q3⟩
      | exact ⟨r2, r3⟩)
    (first
      | (go_at_call 17; (with_reducible refine (made_b N _).mono ?_); rintro e w1 ⟨q, rfl, _, _, hb⟩; have BB : Hid (Below u.heap.size u w1) := ((Below.refl u.heap.size u).drew).trans hb; have r2 := (BB.out.cell (p := ⟨H, 2, none⟩) Hlt).trans Q2.out; have r3 := (BB.out.cell (p := ⟨H, 3, none⟩) Hlt).trans Q3.out; clear hb)
      | (go_at_call 16; (refine (add_no g (T at') m row _ (L at') _ _ ((CU.out.2.1 at' hlt).1.keep BB.out) HR.out).mono ?_; rintro e w2 ⟨rfl, hww⟩; cases hww.symm; clear hww)))
  go_wp2
  go_ret
  exact ⟨rfl, UB.out.trans (BB.out.mono UB.out.size)⟩
set_option maxRecDepth 100000 in
set_option maxHeartbeats 3200000 in
theorem step1_big (B P n m k g b at' : Nat) (tb row N : Int) (R M : List Int) (s1 s2 va vr : Value) (T : Nat → Nat) (D : Nat → Value) (L : Nat → Nat → List Int) (col : Nat → Nat) (w : World) (hC : Core w n m k g b R M T L col) (hD : Docs w n m k R M s1 s2 D L col) (hB : Box B w P g k s1 s2 va vr T D col) (hF : Fresh B w col)
    (hmx : max tb 0 % (k : Int) = (at' : Int)) (hk : 0 < k) (hk6 : k ≤ 6) (hm : m ≤ 16) (hn : n ≤ 16384) (hr : 0 ≤ row ∧ (m : Int) ≤ row) :
    Calls Try.prog 9 #[.pointer (some ⟨P, 0, none⟩), .agg #[.int .i64 1, .int .i64 tb, .int .i64 row, .int .i64 N]] w fun e w' => e = .returned (.bool true) ∧ Below w.heap.size w w' := by
  have hlt : at' < k := by have := Int.emod_lt_of_pos (max tb 0) (show (0 : Int) < k by omega); omega
  obtain ⟨ab, ac, rb, rc, rfl, rfl, t0, d0, l1, l2⟩ := hB.cells hlt
  obtain ⟨da, dc, ed⟩ := (hD.2 at' hlt).slice
  rw [ed] at d0
  obtain ⟨⟨p0, p1, p2, p3, p4⟩, _⟩ := pl_cells hB.1
  obtain ⟨a1, c1, a2, c2, ei, ej, _⟩ := hD.1
  subst ei ej
  have plt : P < w.heap.size := hB.1.lt
  have HC : Hid (Core w n m k g b R M T L col) := hC
  have HD : Hid (Docs w n m k R M (.slice a1 n c1) (.slice a2 n c2) D L col) := hD
  have HB : Hid (Box B w P g k (.slice a1 n c1) (.slice a2 n c2) (.slice (some ⟨ab, 0, none⟩) k ac) (.slice (some ⟨rb, 0, none⟩) k rc) T D col) := hB
  have HF : Hid (Fresh B w col) := hF
  have HE : Hid (D at' = .slice da m dc) := ed
  have HR : Hid (¬ (0 ≤ row ∧ row < m)) := fun q => by omega
  have z0 : decide (0 ≤ row) = true := decide_eq_true (by omega)
  have z : decide (row < (m : Int)) = false := decide_eq_false (by omega)
  clear hr
  clear hC hD hB hF p0 ed
  obtain ⟨H, eH⟩ : ∃ H, w.heap.size = H := ⟨_, rfl⟩
  have EH : Hid (w.heap.size = H) := eH
  go_enter Try.func9, Try.ntmps9
  clear eH
  go_wp2
  go_region
  go_wp2
  go_region
  obtain ⟨u, hu⟩ : ∃ u, (w.alloc (.cells #[.int .i64 1, .int .i64 tb, .int .i64 row, .int .i64 N] 27)).drew.drew = u := ⟨_, rfl⟩
  have UB : Hid (Below w.heap.size w u) := by rw [← hu]; exact (box_below _ _).drew.drew
  have UO : Hid (u.rowIs H 27 4 (opc 1 tb row N)) := by rw [← hu, ← EH.out]; exact (op_alloc w 1 tb row N).drew.drew
  have US : u.heap.size = H + 1 := by rw [← hu, ← EH.out]; simp
  have CU : Hid (Core u n m k g b R M T L col) := HC.out.keep UB.out
  have DU : Hid (Docs u n m k R M (.slice a1 n c1) (.slice a2 n c2) D L col) := HD.out.keep UB.out
  have BU : Hid (Box B u P g k (.slice a1 n c1) (.slice a2 n c2) (.slice (some ⟨ab, 0, none⟩) k ac) (.slice (some ⟨rb, 0, none⟩) k rc) T D col) := HB.out.keep UB.out
  have FU : Hid (Fresh B u col) := HF.out.keep UB.out.size
  have q0 : u.cell? ⟨H, 0, none⟩ = some (.int .i64 1) := UO.out.cell (show 0 < 4 by decide)
  have q2 : u.cell? ⟨H, 2, none⟩ = some (.int .i64 row) := UO.out.cell (show 2 < 4 by decide)
  have q3 : u.cell? ⟨H, 3, none⟩ = some (.int .i64 N) := UO.out.cell (show 3 < 4 by decide)
  have Q2 : Hid (u.cell? ⟨H, 2, none⟩ = some (.int .i64 row)) := q2
  have Q3 : Hid (u.cell? ⟨H, 3, none⟩ = some (.int .i64 N)) := q3
  have Hlt : H < u.heap.size := by omega
  clear t0 d0 p1 p2 p3 p4 l1 l2
  rw [hu, EH.out]
  clear hu
  go_wp2
  go_region_held3 (fun w' => w'.cell? ⟨H, 2, none⟩ = some (.int .i64 row) ∧ w'.cell? ⟨H, 3, none⟩ = some (.int .i64 N))
    (first
      | exact ⟨q2, q3⟩
      | exact ⟨r2, r3⟩)
    (first
      | (go_at_call 17; (with_reducible refine (made_b N _).mono ?_); rintro e w1 ⟨q, rfl, _, _, hb⟩; have BB : Hid (Below u.heap.size u w1) := ((Below.refl u.heap.size u).drew).trans hb; have r2 := (BB.out.cell (p := ⟨H, 2, none⟩) Hlt).trans Q2.out; have r3 := (BB.out.cell (p := ⟨H, 3, none⟩) Hlt).trans Q3.out; clear hb)
      | (go_at_call 16; (refine (add_no g (T at') m row _ (L at') _ _ ((CU.out.2.1 at' hlt).1.keep BB.out) HR.out).mono ?_; rintro e w2 ⟨rfl, hww⟩; cases hww.symm; clear hww)))
  go_wp2
  go_ret
  exact ⟨rfl, UB.out.trans (BB.out.mono UB.out.size)⟩
end Go.Proofs.Ytpifemahakbegaa
