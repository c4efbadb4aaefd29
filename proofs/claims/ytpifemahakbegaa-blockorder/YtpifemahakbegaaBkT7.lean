/- One call of layer 11's law: Add, where all slots are held. -/
import Derived.Test.YtpifemahakbegaaBkT0
namespace Go.Proofs.Ytpifemahakbegaa
set_option linter.unusedVariables false
set_option linter.unusedSimpArgs false
open Go.RowKit

set_option maxRecDepth 100000 in
set_option maxHeartbeats 3200000 in
theorem step1_full (B P n m k g b at' : Nat) (tb N : Int) (row : Nat) (R M : List Int) (s1 s2 va vr : Value) (T : Nat → Nat) (D : Nat → Value) (L : Nat → Nat → List Int) (col : Nat → Nat) (w : World) (hC : Core w n m k g b R M T L col) (hD : Docs w n m k R M s1 s2 D L col) (hB : Box B w P g k s1 s2 va vr T D col) (hF : Fresh B w col)
    (hmx : max tb 0 % (k : Int) = (at' : Int)) (hk : 0 < k) (hk6 : k ≤ 6) (hm : m ≤ 16) (hn : n ≤ 16384) (hr : row < m) (hfull : ∀ i, i < n → ¬ Ls.nth R i = 0) :
    Calls Try.prog 9 #[.pointer (some ⟨P, 0, none⟩), .agg #[.int .i64 1, .int .i64 tb, .int .i64 row, .int .i64 N]] w fun e w' => e = .returned (.bool true) ∧ Core w' n m k g b R M T L col ∧ Docs w' n m k R M s1 s2 D L col ∧ Box B w' P g k s1 s2 va vr T D col ∧ Fresh B w' col ∧ Below B w w' := by
  have hlt : at' < k := by have := Int.emod_lt_of_pos (max tb 0) (show (0 : Int) < k by omega); omega
  obtain ⟨ab, ac, rb, rc, rfl, rfl, t0, d0, l1, l2⟩ := hB.cells hlt
  obtain ⟨da, dc, ed⟩ := (hD.2 at' hlt).slice
  rw [ed] at d0
  obtain ⟨⟨p0, p1, p2, p3, p4⟩, _⟩ := pl_cells hB.1
  obtain ⟨a1, c1, a2, c2, ei, ej, _⟩ := hD.1
  subst ei ej
  have plt : P < w.heap.size := hB.1.lt
  have HC : Hid (Core w n m k g b R M T L col) := hC
  have HD : Hid (Docs w n m k R M (.slice a1 n c1) (.slice a2 n c2) D L col) := hD
  have HB : Hid (Box B w P g k (.slice a1 n c1) (.slice a2 n c2) (.slice (some ⟨ab, 0, none⟩) k ac) (.slice (some ⟨rb, 0, none⟩) k rc) T D col) := hB
  have HF : Hid (Fresh B w col) := hF
  have HE : Hid (D at' = .slice da m dc) := ed
  have HK : Hid (∀ i, i < n → ¬ Ls.nth R i = 0) := hfull
  have z1 : decide ((row : Int) < (m : Int)) = true := decide_eq_true (by omega)
  have hbm := bits_mark N
  obtain ⟨mk, emk⟩ : ∃ mk, Po.mk N = mk := ⟨_, rfl⟩
  rw [emk] at hbm
  clear hfull emk
  clear hC hD hB hF p0 ed
  obtain ⟨H, eH⟩ : ∃ H, w.heap.size = H := ⟨_, rfl⟩
  have EH : Hid (w.heap.size = H) := eH
  go_enter Try.func9, Try.ntmps9
  clear eH
  go_wp2
  go_region
  go_wp2
  go_region
  obtain ⟨u, hu⟩ : ∃ u, (w.alloc (.cells #[.int .i64 1, .int .i64 tb, .int .i64 row, .int .i64 N] 27)).drew.drew = u := ⟨_, rfl⟩
  have UB : Hid (Below w.heap.size w u) := by rw [← hu]; exact (box_below _ _).drew.drew
  have UO : Hid (u.rowIs H 27 4 (opc 1 tb row N)) := by rw [← hu, ← EH.out]; exact (op_alloc w 1 tb row N).drew.drew
  have US : u.heap.size = H + 1 := by rw [← hu, ← EH.out]; simp
  have CU : Hid (Core u n m k g b R M T L col) := HC.out.keep UB.out
  have DU : Hid (Docs u n m k R M (.slice a1 n c1) (.slice a2 n c2) D L col) := HD.out.keep UB.out
  have BU : Hid (Box B u P g k (.slice a1 n c1) (.slice a2 n c2) (.slice (some ⟨ab, 0, none⟩) k ac) (.slice (some ⟨rb, 0, none⟩) k rc) T D col) := HB.out.keep UB.out
  have FU : Hid (Fresh B u col) := HF.out.keep UB.out.size
  have q0 : u.cell? ⟨H, 0, none⟩ = some (.int .i64 1) := UO.out.cell (show 0 < 4 by decide)
  have q2 : u.cell? ⟨H, 2, none⟩ = some (.int .i64 row) := UO.out.cell (show 2 < 4 by decide)
  have q3 : u.cell? ⟨H, 3, none⟩ = some (.int .i64 N) := UO.out.cell (show 3 < 4 by decide)
  have Q2 : Hid (u.cell? ⟨H, 2, none⟩ = some (.int .i64 row)) := q2
  have Q3 : Hid (u.cell? ⟨H, 3, none⟩ = some (.int .i64 N)) := q3
  have Hlt : H < u.heap.size := by omega
  clear t0 d0 p1 p2 p3 p4 l1 l2
  rw [hu, EH.out]
  clear hu
  have BP : Hid (B ≤ P ∧ B ≤ g ∧ B ≤ b) := ⟨FU.out.2.1 P (by have := BU.out.2.2.2.1; omega), FU.out.2.1 g (by have := CU.out.2.2.1; omega), FU.out.2.1 b (by have := CU.out.2.2.2; omega)⟩
  obtain ⟨⟨_, p1, p2, _, _⟩, _⟩ := pl_cells BU.out.1
  have P12 : Hid (u.cell? ⟨P, 1, none⟩ = some (.slice a1 n c1) ∧ u.cell? ⟨P, 2, none⟩ = some (.slice a2 n c2)) := ⟨p1, p2⟩
  have plu : P < u.heap.size := BU.out.1.lt
  have nPH : ¬ P = H + 1 := by omega
  have nPH2 : ¬ H + 1 = P := by omega
  have VB : Hid (Below u.heap.size u (u.alloc (.cells #[.slice none 0 0, .slice none 0 0] 33)).drew) := (box_below _ _).drew
  have VX : Hid ((u.alloc (.cells #[.slice none 0 0, .slice none 0 0] 33)).drew.rowIs (H + 1) 33 2 (rfc (.slice none 0 0) (.slice none 0 0))) := by rw [← US]; exact (rfc_alloc u _ _ _).drew
  have v1 := (VB.out.cell (p := ⟨P, 1, none⟩) plu).trans p1
  have v2 := (VB.out.cell (p := ⟨P, 2, none⟩) plu).trans p2
  have v3 := (VB.out.cell (p := ⟨H, 3, none⟩) Hlt).trans Q3.out
  go_wp2
  go_region_held3 (fun w' => w'.cell? ⟨P, 1, none⟩ = some (.slice a1 n c1) ∧ w'.cell? ⟨P, 2, none⟩ = some (.slice a2 n c2) ∧ w'.cell? ⟨H, 3, none⟩ = some (.int .i64 N))
    (first
      | exact ⟨p1, p2, q3⟩
      | exact ⟨v1, v2, v3⟩
      | exact ⟨r1, r2, r3⟩
      | (refine ⟨?_, ?_, ?_⟩ <;> (rw [World.cell?_setCell_other _ _ _ _ (by simp [nPH, nPH2]), World.cell?_setCell_other _ _ _ _ (by simp [nPH, nPH2])]; assumption))
      | go_keep)
    (first
      | (go_at_call 26; (with_reducible refine (refPut_full a1 a2 n c1 n c2 mk R u.drew ((d_list2 DU.out).1.keep (Below.refl u.heap.size u).drew) (d_list2 DU.out).2.2.1 hn HK.out).mono ?_); rintro e w1 ⟨rfl, hb⟩; have BB : Hid (Below u.heap.size u w1) := ((Below.refl u.heap.size u).drew).trans hb; have r1 := (BB.out.cell (p := ⟨P, 1, none⟩) plu).trans P12.out.1; have r2 := (BB.out.cell (p := ⟨P, 2, none⟩) plu).trans P12.out.2; have r3 := (BB.out.cell (p := ⟨H, 3, none⟩) Hlt).trans Q3.out; have PW1 : P < w1.heap.size := Nat.lt_of_lt_of_le plu BB.out.size; have HW1 : H < w1.heap.size := Nat.lt_of_lt_of_le Hlt BB.out.size; clear hb)
      | (go_at_call 26; (with_reducible refine (refPut_full a1 a2 n c1 n c2 mk R (u.alloc (.cells #[.slice none 0 0, .slice none 0 0] 33)).drew ((d_list2 DU.out).1.keep VB.out) (d_list2 DU.out).2.2.1 hn HK.out).mono ?_); rintro e w1 ⟨rfl, hb⟩; have BB : Hid (Below u.heap.size u w1) := VB.out.trans (hb.mono VB.out.size); have X1 : Hid (w1.rowIs (H + 1) 33 2 (rfc (.slice none 0 0) (.slice none 0 0))) := VX.out.of_block (hb.block _ VX.out.lt); have xx0 := X1.out.cell (show 0 < 2 by decide); have xx1 := X1.out.cell (show 1 < 2 by decide); have xf0 := X1.out.frozen 0; have xf1 := X1.out.frozen 1; have r1 := (BB.out.cell (p := ⟨P, 1, none⟩) plu).trans P12.out.1; have r2 := (BB.out.cell (p := ⟨P, 2, none⟩) plu).trans P12.out.2; have r3 := (BB.out.cell (p := ⟨H, 3, none⟩) Hlt).trans Q3.out; have PW1 : P < w1.heap.size := Nat.lt_of_lt_of_le plu BB.out.size; have HW1 : H < w1.heap.size := Nat.lt_of_lt_of_le Hlt BB.out.size; clear hb))
  · obtain ⟨v, hv⟩ : ∃ v, w1.alloc (.cells #[.slice a1 n c1, .slice a2 n c2] 33) = v := ⟨_, rfl⟩
    obtain ⟨X, hX⟩ : ∃ X, w1.heap.size = X := ⟨_, rfl⟩
    have VV : Hid (Below u.heap.size u v) := by rw [← hv]; exact BB.out.alloc BB.out.size _
    have XV : Hid (v.rowIs X 33 2 (rfc (.slice a1 n c1) (.slice a2 n c2))) := by rw [← hv, ← hX]; exact rfc_alloc w1 _ _ _
    rw [hv, hX]
    clear hv hX BB
    have x0 : v.cell? ⟨X, 0, none⟩ = some (.slice a1 n c1) := XV.out.cell (show 0 < 2 by decide)
    have x1 : v.cell? ⟨X, 1, none⟩ = some (.slice a2 n c2) := XV.out.cell (show 1 < 2 by decide)
    have hsv := VV.out.size
    have DV : Hid (Docs v n m k R M (.slice a1 n c1) (.slice a2 n c2) D L col) := DU.out.keep VV.out
    have CV : Hid (Core v n m k g b R M T L col) := CU.out.keep VV.out
    have BV : Hid (Box B v P g k (.slice a1 n c1) (.slice a2 n c2) (.slice (some ⟨ab, 0, none⟩) k ac) (.slice (some ⟨rb, 0, none⟩) k rc) T D col) := BU.out.keep VV.out
    have FV : Hid (Fresh B v col) := FU.out.keep hsv
    obtain ⟨⟨_, y1, y2, _, _⟩, yf⟩ := pl_cells BV.out.1
    have yf1 := yf 1
    have yf2 := yf 2
    have plv : P < v.heap.size := BV.out.1.lt
    clear yf p1 p2 q2 q3 v1 v2 v3 r1 r2 r3
    go_wp2
    obtain ⟨wa, hwa⟩ : ∃ wa, (v.setCell ⟨P, 1, none⟩ (.slice a1 n c1)).setCell ⟨P, 2, none⟩ (.slice a2 n c2) = wa := ⟨_, rfl⟩
    have farA : ∀ q, q < v.heap.size → ¬ q = P → wa.heap[q]? = v.heap[q]? := fun q _ hn => by rw [← hwa, Below.heap_setCell _ _ _ _ (show q ≠ P from hn), Below.heap_setCell _ _ _ _ (show q ≠ P from hn)]
    have sA : wa.heap.size = v.heap.size := by rw [← hwa]; simp
    have CA : Hid (Core wa n m k g b R M T L col) := CV.out.one (ty_row BV.out.1) (by decide) farA
    have DA : Hid (Docs wa n m k R M (.slice a1 n c1) (.slice a2 n c2) D L col) := DV.out.one (H := P) (by have := BV.out.2.2.2.1; omega) farA
    have BA : Hid (Box B wa P g k (.slice a1 n c1) (.slice a2 n c2) (.slice (some ⟨ab, 0, none⟩) k ac) (.slice (some ⟨rb, 0, none⟩) k rc) T D col) := by rw [← hwa]; exact BV.out.pool
    have FA : Hid (Fresh B wa col) := FV.out.keep (by omega)
    have ZA : Hid (Below B u wa) := by rw [← hwa]; exact ((VV.out.mono FU.out.2.2).setCell (p := ⟨P, 1, none⟩) BP.out.1 _).setCell (p := ⟨P, 2, none⟩) BP.out.1 _
    have O8 : Hid (wa.rowIs H 27 4 (opc 1 tb row N)) := (UO.out.of_block (VV.out.block H Hlt)).of_block (farA H (by have := VV.out.size; omega) (by have := EH.out; omega))
    have s2 : wa.cell? ⟨H, 2, none⟩ = some (.int .i64 (row : Int)) := O8.out.cell (show 2 < 4 by decide)
    have s3 : wa.cell? ⟨H, 3, none⟩ = some (.int .i64 N) := O8.out.cell (show 3 < 4 by decide)
    have S23 : Hid (wa.cell? ⟨H, 2, none⟩ = some (.int .i64 (row : Int)) ∧ wa.cell? ⟨H, 3, none⟩ = some (.int .i64 N)) := ⟨s2, s3⟩
    have Hla : H < wa.heap.size := O8.out.lt
    have LR : Hid (R.length = n) := (d_list2 DU.out).2.2.1
    rw [hwa]
    clear hwa farA sA y1 y2 yf1 yf2 x0 x1 plv hsv CV DV BV FV XV VV
    go_region_held3 (fun w' => w'.cell? ⟨H, 2, none⟩ = some (.int .i64 (row : Int)) ∧ w'.cell? ⟨H, 3, none⟩ = some (.int .i64 N))
      (first
        | exact ⟨s2, s3⟩
        | exact ⟨t2, t3⟩)
      (first
        | (go_at_call 17; (with_reducible refine (made_b N _).mono ?_); rintro e w9 ⟨q, rfl, _, _, hb⟩; have B9 : Hid (Below wa.heap.size wa w9) := ((Below.refl wa.heap.size wa).drew).trans hb; have t2 := (B9.out.cell (p := ⟨H, 2, none⟩) Hla).trans S23.out.1; have t3 := (B9.out.cell (p := ⟨H, 3, none⟩) Hla).trans S23.out.2; clear hb)
        | (go_at_call 16; (refine (add_full g b n (T at') m row _ R M (L at') _ _ (CA.out.keep B9.out).1 ((CA.out.keep B9.out).2.1 at' hlt).1 hr (fun i hi => HK.out i (LR.out ▸ hi))).mono ?_); rintro e w10 ⟨rfl, hww⟩; cases hww.symm; clear hww))
    all_goals
      go_wp2
      go_ret
      exact ⟨rfl, CA.out.keep B9.out, DA.out.keep B9.out, BA.out.keep B9.out, FA.out.keep B9.out.size, (UB.out.mono HF.out.2.2).trans (ZA.out.trans (B9.out.mono FA.out.2.2))⟩
  · obtain ⟨v, hv⟩ : ∃ v, (w1.setCell ⟨H + 1, 0, none⟩ (.slice a1 n c1)).setCell ⟨H + 1, 1, none⟩ (.slice a2 n c2) = v := ⟨_, rfl⟩
    obtain ⟨X, hX⟩ : ∃ X, H + 1 = X := ⟨_, rfl⟩
    have VV : Hid (Below u.heap.size u v) := by rw [← hv]; exact (BB.out.setCell (p := ⟨H + 1, 0, none⟩) (by show u.heap.size ≤ H + 1; omega) _).setCell (p := ⟨H + 1, 1, none⟩) (by show u.heap.size ≤ H + 1; omega) _
    have XV : Hid (v.rowIs X 33 2 (rfc (.slice a1 n c1) (.slice a2 n c2))) := by rw [← hv, ← hX]; exact ((X1.out.set 0 _).congr (fun j hj => rfc_set0 _ _ _ j hj)).set 1 _ |>.congr (fun j hj => rfc_set1 _ _ _ j hj)
    rw [hv, hX]
    clear hv hX BB
    have x0 : v.cell? ⟨X, 0, none⟩ = some (.slice a1 n c1) := XV.out.cell (show 0 < 2 by decide)
    have x1 : v.cell? ⟨X, 1, none⟩ = some (.slice a2 n c2) := XV.out.cell (show 1 < 2 by decide)
    have hsv := VV.out.size
    have DV : Hid (Docs v n m k R M (.slice a1 n c1) (.slice a2 n c2) D L col) := DU.out.keep VV.out
    have CV : Hid (Core v n m k g b R M T L col) := CU.out.keep VV.out
    have BV : Hid (Box B v P g k (.slice a1 n c1) (.slice a2 n c2) (.slice (some ⟨ab, 0, none⟩) k ac) (.slice (some ⟨rb, 0, none⟩) k rc) T D col) := BU.out.keep VV.out
    have FV : Hid (Fresh B v col) := FU.out.keep hsv
    obtain ⟨⟨_, y1, y2, _, _⟩, yf⟩ := pl_cells BV.out.1
    have yf1 := yf 1
    have yf2 := yf 2
    have plv : P < v.heap.size := BV.out.1.lt
    clear yf p1 p2 q2 q3 v1 v2 v3 r1 r2 r3
    go_wp2
    obtain ⟨wa, hwa⟩ : ∃ wa, (v.setCell ⟨P, 1, none⟩ (.slice a1 n c1)).setCell ⟨P, 2, none⟩ (.slice a2 n c2) = wa := ⟨_, rfl⟩
    have farA : ∀ q, q < v.heap.size → ¬ q = P → wa.heap[q]? = v.heap[q]? := fun q _ hn => by rw [← hwa, Below.heap_setCell _ _ _ _ (show q ≠ P from hn), Below.heap_setCell _ _ _ _ (show q ≠ P from hn)]
    have sA : wa.heap.size = v.heap.size := by rw [← hwa]; simp
    have CA : Hid (Core wa n m k g b R M T L col) := CV.out.one (ty_row BV.out.1) (by decide) farA
    have DA : Hid (Docs wa n m k R M (.slice a1 n c1) (.slice a2 n c2) D L col) := DV.out.one (H := P) (by have := BV.out.2.2.2.1; omega) farA
    have BA : Hid (Box B wa P g k (.slice a1 n c1) (.slice a2 n c2) (.slice (some ⟨ab, 0, none⟩) k ac) (.slice (some ⟨rb, 0, none⟩) k rc) T D col) := by rw [← hwa]; exact BV.out.pool
    have FA : Hid (Fresh B wa col) := FV.out.keep (by omega)
    have ZA : Hid (Below B u wa) := by rw [← hwa]; exact ((VV.out.mono FU.out.2.2).setCell (p := ⟨P, 1, none⟩) BP.out.1 _).setCell (p := ⟨P, 2, none⟩) BP.out.1 _
    have O8 : Hid (wa.rowIs H 27 4 (opc 1 tb row N)) := (UO.out.of_block (VV.out.block H Hlt)).of_block (farA H (by have := VV.out.size; omega) (by have := EH.out; omega))
    have s2 : wa.cell? ⟨H, 2, none⟩ = some (.int .i64 (row : Int)) := O8.out.cell (show 2 < 4 by decide)
    have s3 : wa.cell? ⟨H, 3, none⟩ = some (.int .i64 N) := O8.out.cell (show 3 < 4 by decide)
    have S23 : Hid (wa.cell? ⟨H, 2, none⟩ = some (.int .i64 (row : Int)) ∧ wa.cell? ⟨H, 3, none⟩ = some (.int .i64 N)) := ⟨s2, s3⟩
    have Hla : H < wa.heap.size := O8.out.lt
    have LR : Hid (R.length = n) := (d_list2 DU.out).2.2.1
    rw [hwa]
    clear hwa farA sA y1 y2 yf1 yf2 x0 x1 plv hsv CV DV BV FV XV VV
    go_region_held3 (fun w' => w'.cell? ⟨H, 2, none⟩ = some (.int .i64 (row : Int)) ∧ w'.cell? ⟨H, 3, none⟩ = some (.int .i64 N))
      (first
        | exact ⟨s2, s3⟩
        | exact ⟨t2, t3⟩)
      (first
        | (go_at_call 17; (with_reducible refine (made_b N _).mono ?_); rintro e w9 ⟨q, rfl, _, _, hb⟩; have B9 : Hid (Below wa.heap.size wa w9) := ((Below.refl wa.heap.size wa).drew).trans hb; have t2 := (B9.out.cell (p := ⟨H, 2, none⟩) Hla).trans S23.out.1; have t3 := (B9.out.cell (p := ⟨H, 3, none⟩) Hla).trans S23.out.2; clear hb)
        | (go_at_call 16; (refine (add_full g b n (T at') m row _ R M (L at') _ _ (CA.out.keep B9.out).1 ((CA.out.keep B9.out).2.1 at' hlt).1 hr (fun i hi => HK.out i (LR.out ▸ hi))).mono ?_); rintro e w10 ⟨rfl, hww⟩; cases hww.symm; clear hww))
    all_goals
      go_wp2
      go_ret
      exact ⟨rfl, CA.out.keep B9.out, DA.out.keep B9.out, BA.out.keep B9.out, FA.out.keep B9.out.size, (UB.out.mono HF.out.2.2).trans (ZA.out.trans (B9.out.mono FA.out.2.2))⟩
end Go.Proofs.Ytpifemahakbegaa
