/- One call of layer 11's law: Add. -/
import Derived.Test.YtpifemahakbegaaBkT0
import Derived.Deep.RegionLawGrows
import Derived.Deep.CutRange
import Derived.Deep.DeepCutAuto
namespace Go.Proofs.Ytpifemahakbegaa
set_option linter.unusedVariables false
set_option linter.unusedSimpArgs false
open Go.RowKit

theorem add_far {w8 w9 w10 : World} {n m k g b c H : Nat} {R M : List Int} {T : Nat → Nat} {L : Nat → Nat → List Int} {col : Nat → Nat} {t : TypeId} (hb : Below w8.heap.size w8 w9) (hc : Core w8 n m k g b R M T L col) (hq : ButQ g b (fun q => col q = c + 1) w9 w10) (hl : H < w8.heap.size) (ht : Ty w8 H t) (e1 : ¬ t = 74) (e2 : ¬ t = 86) (h0 : col H = 0) : w10.heap[H]? = w8.heap[H]? := by
  rw [hq.block (by have := hb.size; omega) (ht.ne hc.1.tys.1 e1) (ht.ne hc.1.tys.2 e2) (fun e => by have : col H = c + 1 := e; omega), hb.block H hl]
set_option maxRecDepth 100000 in
set_option maxHeartbeats 3200000 in
theorem step1_ok (B P n m k g b at' : Nat) (tb N : Int) (row : Nat) (R M : List Int) (s1 s2 va vr : Value) (T : Nat → Nat) (D : Nat → Value) (L : Nat → Nat → List Int) (col : Nat → Nat) (w : World) (hC : Core w n m k g b R M T L col) (hD : Docs w n m k R M s1 s2 D L col) (hB : Box B w P g k s1 s2 va vr T D col) (hF : Fresh B w col)
    (hmx : max tb 0 % (k : Int) = (at' : Int)) (hk : 0 < k) (hk6 : k ≤ 6) (hm : m ≤ 16) (hn : n ≤ 16384) (kk : Nat) (mk : Int) (hr : row < m) (hkk : kk < n) (h0 : Ls.nth R kk = 0) (hlow : ∀ i, i < kk → ¬ Ls.nth R i = 0) (hl : Bk.len (L at') m ≤ 1000) (emk : Po.mk N = mk) :
    Calls Try.prog 9 #[.pointer (some ⟨P, 0, none⟩), .agg #[.int .i64 1, .int .i64 tb, .int .i64 row, .int .i64 N]] w fun e w' => e = .returned (.bool true) ∧ ∃ t1 t2 D' col', Core w' n m k g b (R.set kk 1) (M.set kk mk) T (Bk.put L at' (Bk.up (L at') row (L at' row ++ [(kk : Int)]))) col' ∧ Docs w' n m k (R.set kk 1) (M.set kk mk) t1 t2 D' (Bk.put L at' (Bk.up (L at') row (L at' row ++ [(kk : Int)]))) col' ∧
      Box B w' P g k t1 t2 va vr T D' col' ∧ Fresh B w' col' ∧ Below B w w' := by
  have hlt : at' < k := by have := Int.emod_lt_of_pos (max tb 0) (show (0 : Int) < k by omega); omega
  obtain ⟨ab, ac, rb, rc, rfl, rfl, t0, d0, l1, l2⟩ := hB.cells hlt
  obtain ⟨da, dc, ed⟩ := (hD.2 at' hlt).slice
  rw [ed] at d0
  obtain ⟨⟨p0, p1, p2, p3, p4⟩, _⟩ := pl_cells hB.1
  obtain ⟨a1, c1, a2, c2, ei, ej, _⟩ := hD.1
  subst ei ej
  have plt : P < w.heap.size := hB.1.lt
  have HC : Hid (Core w n m k g b R M T L col) := hC
  have HD : Hid (Docs w n m k R M (.slice a1 n c1) (.slice a2 n c2) D L col) := hD
  have HB : Hid (Box B w P g k (.slice a1 n c1) (.slice a2 n c2) (.slice (some ⟨ab, 0, none⟩) k ac) (.slice (some ⟨rb, 0, none⟩) k rc) T D col) := hB
  have HF : Hid (Fresh B w col) := hF
  have HE : Hid (D at' = .slice da m dc) := ed
  have HK : Hid (kk < n ∧ Ls.nth R kk = 0 ∧ ∀ i, i < kk → ¬ Ls.nth R i = 0) := ⟨hkk, h0, hlow⟩
  have HL : Hid (Bk.len (L at') m ≤ 1000) := hl
  have z1 : decide ((row : Int) < (m : Int)) = true := decide_eq_true (by omega)
  have hbm := bits_mark N
  have EM : Hid (Po.mk N = mk) := emk
  rw [emk] at hbm
  clear hkk h0 hlow hl emk
  clear hC hD hB hF p0 ed
  obtain ⟨H, eH⟩ : ∃ H, w.heap.size = H := ⟨_, rfl⟩
  have EH : Hid (w.heap.size = H) := eH
  go_enter Try.func9, Try.ntmps9
  clear eH
  go_wp2
  go_region
  go_wp2
  go_region
  obtain ⟨u, hu⟩ : ∃ u, (w.alloc (.cells #[.int .i64 1, .int .i64 tb, .int .i64 row, .int .i64 N] 27)).drew.drew = u := ⟨_, rfl⟩
  have UB : Hid (Below w.heap.size w u) := by rw [← hu]; exact (box_below _ _).drew.drew
  have UO : Hid (u.rowIs H 27 4 (opc 1 tb row N)) := by rw [← hu, ← EH.out]; exact (op_alloc w 1 tb row N).drew.drew
  have US : u.heap.size = H + 1 := by rw [← hu, ← EH.out]; simp
  have CU : Hid (Core u n m k g b R M T L col) := HC.out.keep UB.out
  have DU : Hid (Docs u n m k R M (.slice a1 n c1) (.slice a2 n c2) D L col) := HD.out.keep UB.out
  have BU : Hid (Box B u P g k (.slice a1 n c1) (.slice a2 n c2) (.slice (some ⟨ab, 0, none⟩) k ac) (.slice (some ⟨rb, 0, none⟩) k rc) T D col) := HB.out.keep UB.out
  have FU : Hid (Fresh B u col) := HF.out.keep UB.out.size
  have q0 : u.cell? ⟨H, 0, none⟩ = some (.int .i64 1) := UO.out.cell (show 0 < 4 by decide)
  have q2 : u.cell? ⟨H, 2, none⟩ = some (.int .i64 row) := UO.out.cell (show 2 < 4 by decide)
  have q3 : u.cell? ⟨H, 3, none⟩ = some (.int .i64 N) := UO.out.cell (show 3 < 4 by decide)
  have Q2 : Hid (u.cell? ⟨H, 2, none⟩ = some (.int .i64 row)) := q2
  have Q3 : Hid (u.cell? ⟨H, 3, none⟩ = some (.int .i64 N)) := q3
  have Hlt : H < u.heap.size := by omega
  clear t0 d0 p1 p2 p3 p4 l1 l2
  rw [hu, EH.out]
  clear hu
  have BP : Hid (B ≤ P ∧ B ≤ g ∧ B ≤ b) := ⟨FU.out.2.1 P (by have := BU.out.2.2.2.1; omega), FU.out.2.1 g (by have := CU.out.2.2.1; omega), FU.out.2.1 b (by have := CU.out.2.2.2; omega)⟩
  obtain ⟨⟨_, p1, p2, _, _⟩, _⟩ := pl_cells BU.out.1
  have P12 : Hid (u.cell? ⟨P, 1, none⟩ = some (.slice a1 n c1) ∧ u.cell? ⟨P, 2, none⟩ = some (.slice a2 n c2)) := ⟨p1, p2⟩
  have plu : P < u.heap.size := BU.out.1.lt
  have nPH : ¬ P = H + 1 := by omega
  have nPH2 : ¬ H + 1 = P := by omega
  have VB : Hid (Below u.heap.size u (u.alloc (.cells #[.slice none 0 0, .slice none 0 0] 33)).drew) := (box_below _ _).drew
  have VX : Hid ((u.alloc (.cells #[.slice none 0 0, .slice none 0 0] 33)).drew.rowIs (H + 1) 33 2 (rfc (.slice none 0 0) (.slice none 0 0))) := by rw [← US]; exact (rfc_alloc u _ _ _).drew
  have v1 := (VB.out.cell (p := ⟨P, 1, none⟩) plu).trans p1
  have v2 := (VB.out.cell (p := ⟨P, 2, none⟩) plu).trans p2
  have v3 := (VB.out.cell (p := ⟨H, 3, none⟩) Hlt).trans Q3.out
  go_wp2
  go_region_held3 (fun w' => w'.cell? ⟨P, 1, none⟩ = some (.slice a1 n c1) ∧ w'.cell? ⟨P, 2, none⟩ = some (.slice a2 n c2) ∧ w'.cell? ⟨H, 3, none⟩ = some (.int .i64 N))
    (first
      | exact ⟨p1, p2, q3⟩
      | exact ⟨v1, v2, v3⟩
      | exact ⟨r1, r2, r3⟩
      | (refine ⟨?_, ?_, ?_⟩ <;> (rw [World.cell?_setCell_other _ _ _ _ (by simp [nPH, nPH2]), World.cell?_setCell_other _ _ _ _ (by simp [nPH, nPH2])]; assumption))
      | go_keep)
    (first
      | (go_at_call 26; (with_reducible refine (refPut_ok a1 a2 n c1 c2 kk mk R M u.drew ((d_list2 DU.out).1.keep (Below.refl u.heap.size u).drew) ((d_list2 DU.out).2.1.keep (Below.refl u.heap.size u).drew) (d_list2 DU.out).2.2.1 (d_list2 DU.out).2.2.2.1 (d_list2 DU.out).2.2.2.2.1 (d_list2 DU.out).2.2.2.2.2.1 hn HK.out.1 HK.out.2.1 HK.out.2.2).mono ?_); rintro e w1 ⟨b1, d1, b2, d2, rfl, hl1, hl2, hn1, hn2, hc1, hc2, hb⟩; have BB : Hid (Below u.heap.size u w1) := ((Below.refl u.heap.size u).drew).trans hb; have r1 := (BB.out.cell (p := ⟨P, 1, none⟩) plu).trans P12.out.1; have r2 := (BB.out.cell (p := ⟨P, 2, none⟩) plu).trans P12.out.2; have r3 := (BB.out.cell (p := ⟨H, 3, none⟩) Hlt).trans Q3.out; have PW1 : P < w1.heap.size := Nat.lt_of_lt_of_le plu BB.out.size; have HW1 : H < w1.heap.size := Nat.lt_of_lt_of_le Hlt BB.out.size; have L1 : Hid (Lst .i64 w1 b1 (R.set kk 1) ∧ Lst .i64 w1 b2 (M.set kk mk) ∧ (b1 = none → d1 = 0) ∧ (b2 = none → d2 = 0) ∧ (∀ x, b1 = some x → u.heap.size ≤ x.block) ∧ ∀ x, b2 = some x → u.heap.size ≤ x.block) := ⟨hl1, hl2, hn1, hn2, fun x ex => by have := hc1 x ex; simp at this; omega, fun x ex => by have := hc2 x ex; simp at this; omega⟩; clear hl1 hl2 hn1 hn2 hc1 hc2 hb)
      | (go_at_call 26; (with_reducible refine (refPut_ok a1 a2 n c1 c2 kk mk R M (u.alloc (.cells #[.slice none 0 0, .slice none 0 0] 33)).drew ((d_list2 DU.out).1.keep VB.out) ((d_list2 DU.out).2.1.keep VB.out) (d_list2 DU.out).2.2.1 (d_list2 DU.out).2.2.2.1 (d_list2 DU.out).2.2.2.2.1 (d_list2 DU.out).2.2.2.2.2.1 hn HK.out.1 HK.out.2.1 HK.out.2.2).mono ?_); rintro e w1 ⟨b1, d1, b2, d2, rfl, hl1, hl2, hn1, hn2, hc1, hc2, hb⟩; have BB : Hid (Below u.heap.size u w1) := VB.out.trans (hb.mono VB.out.size); have X1 : Hid (w1.rowIs (H + 1) 33 2 (rfc (.slice none 0 0) (.slice none 0 0))) := VX.out.of_block (hb.block _ VX.out.lt); have xx0 := X1.out.cell (show 0 < 2 by decide); have xx1 := X1.out.cell (show 1 < 2 by decide); have xf0 := X1.out.frozen 0; have xf1 := X1.out.frozen 1; have r1 := (BB.out.cell (p := ⟨P, 1, none⟩) plu).trans P12.out.1; have r2 := (BB.out.cell (p := ⟨P, 2, none⟩) plu).trans P12.out.2; have r3 := (BB.out.cell (p := ⟨H, 3, none⟩) Hlt).trans Q3.out; have PW1 : P < w1.heap.size := Nat.lt_of_lt_of_le plu BB.out.size; have HW1 : H < w1.heap.size := Nat.lt_of_lt_of_le Hlt BB.out.size; have L1 : Hid (Lst .i64 w1 b1 (R.set kk 1) ∧ Lst .i64 w1 b2 (M.set kk mk) ∧ (b1 = none → d1 = 0) ∧ (b2 = none → d2 = 0) ∧ (∀ x, b1 = some x → u.heap.size + 1 ≤ x.block) ∧ ∀ x, b2 = some x → u.heap.size + 1 ≤ x.block) := ⟨hl1, hl2, hn1, hn2, fun x ex => by have := hc1 x ex; simp at this; omega, fun x ex => by have := hc2 x ex; simp at this; omega⟩; clear hl1 hl2 hn1 hn2 hc1 hc2 hb))
  · obtain ⟨v, hv⟩ : ∃ v, w1.alloc (.cells #[.slice b1 n d1, .slice b2 n d2] 33) = v := ⟨_, rfl⟩
    obtain ⟨X, hX⟩ : ∃ X, w1.heap.size = X := ⟨_, rfl⟩
    have VV : Hid (Below u.heap.size u v) := by rw [← hv]; exact BB.out.alloc BB.out.size _
    have XV : Hid (v.rowIs X 33 2 (rfc (.slice b1 n d1) (.slice b2 n d2))) := by rw [← hv, ← hX]; exact rfc_alloc w1 _ _ _
    have LV : Hid (Lst .i64 v b1 (R.set kk 1) ∧ Lst .i64 v b2 (M.set kk mk) ∧ (b1 = none → d1 = 0) ∧ (b2 = none → d2 = 0) ∧ (∀ x, b1 = some x → u.heap.size ≤ x.block) ∧ ∀ x, b2 = some x → u.heap.size ≤ x.block) := by
      refine ⟨?_, ?_, L1.out.2.2.1, L1.out.2.2.2.1, fun x ex => by have := L1.out.2.2.2.2.1 x ex; omega, fun x ex => by have := L1.out.2.2.2.2.2 x ex; omega⟩
      · rw [← hv]; exact L1.out.1.keep (box_below _ _)
      · rw [← hv]; exact L1.out.2.1.keep (box_below _ _)
    have PX : Hid (u.heap.size ≤ X) := by rw [← hX]; have := BB.out.size; show u.heap.size ≤ _; omega
    rw [hv, hX]
    clear hv hX L1 BB
    have x0 : v.cell? ⟨X, 0, none⟩ = some (.slice b1 n d1) := XV.out.cell (show 0 < 2 by decide)
    have x1 : v.cell? ⟨X, 1, none⟩ = some (.slice b2 n d2) := XV.out.cell (show 1 < 2 by decide)
    have hsv := VV.out.size
    have DV : Hid (Docs v n m k (R.set kk 1) (M.set kk mk) (.slice b1 n d1) (.slice b2 n d2) D L col) := (DU.out.keep VV.out).lists LV.out.1 LV.out.2.1 LV.out.2.2.1 LV.out.2.2.2.1 (fun x ex _ => FU.out.1 _ (LV.out.2.2.2.2.1 x ex)) (fun x ex _ => FU.out.1 _ (LV.out.2.2.2.2.2 x ex)) (by rw [List.length_set]; exact (d_list2 DU.out).2.2.1) (by rw [List.length_set]; exact (d_list2 DU.out).2.2.2.1)
    have CV : Hid (Core v n m k g b R M T L col) := CU.out.keep VV.out
    have BV : Hid (Box B v P g k (.slice a1 n c1) (.slice a2 n c2) (.slice (some ⟨ab, 0, none⟩) k ac) (.slice (some ⟨rb, 0, none⟩) k rc) T D col) := BU.out.keep VV.out
    have FV : Hid (Fresh B v col) := FU.out.keep hsv
    obtain ⟨⟨_, y1, y2, _, _⟩, yf⟩ := pl_cells BV.out.1
    have yf1 := yf 1
    have yf2 := yf 2
    have plv : P < v.heap.size := BV.out.1.lt
    clear yf p1 p2 q2 q3 v1 v2 v3 r1 r2 r3
    go_wp2_with fail
    obtain ⟨wa, hwa⟩ : ∃ wa, (v.setCell ⟨P, 1, none⟩ (.slice b1 n d1)).setCell ⟨P, 2, none⟩ (.slice b2 n d2) = wa := ⟨_, rfl⟩
    have farA : ∀ q, q < v.heap.size → ¬ q = P → wa.heap[q]? = v.heap[q]? := fun q _ hn => by rw [← hwa, Below.heap_setCell _ _ _ _ (show q ≠ P from hn), Below.heap_setCell _ _ _ _ (show q ≠ P from hn)]
    have sA : wa.heap.size = v.heap.size := by rw [← hwa]; simp
    have CA : Hid (Core wa n m k g b R M T L col) := CV.out.one (ty_row BV.out.1) (by decide) farA
    have DA : Hid (Docs wa n m k (R.set kk 1) (M.set kk mk) (.slice b1 n d1) (.slice b2 n d2) D L col) := DV.out.one (H := P) (by have := BV.out.2.2.2.1; omega) farA
    have BA : Hid (Box B wa P g k (.slice b1 n d1) (.slice b2 n d2) (.slice (some ⟨ab, 0, none⟩) k ac) (.slice (some ⟨rb, 0, none⟩) k rc) T D col) := by rw [← hwa]; exact BV.out.pool
    have FA : Hid (Fresh B wa col) := FV.out.keep (by omega)
    have ZA : Hid (Below B u wa) := by rw [← hwa]; exact ((VV.out.mono FU.out.2.2).setCell (p := ⟨P, 1, none⟩) BP.out.1 _).setCell (p := ⟨P, 2, none⟩) BP.out.1 _
    have HHa : Hid (wa.rowIs H 27 4 (opc 1 tb row N)) := (UO.out.of_block (VV.out.block H Hlt)).of_block (farA H (by have := VV.out.size; omega) (by have := EH.out; omega))
    have HRa : Hid (Rws wa (.slice da m dc) m (L at') (fun q => col q = 0)) := by have := DA.out.2 at' hlt; rw [HE.out] at this; exact this
    rw [hwa]
    clear hwa farA sA y1 y2 yf1 yf2 x0 x1 plv hsv CV DV BV FV XV LV VV
    refine (copied_any _ m (L at') _ _ HRa.out hm (by have := HL.out; omega)).mono ?_
    rintro e w5 ⟨lv, rfl, hrl, hb⟩
    obtain ⟨ld, lc, A, C, elv, hcl, hol, _⟩ := hrl.cell hr
    subst elv
    obtain ⟨n0, en⟩ : ∃ n0, (L at' row).length = n0 := ⟨_, rfl⟩
    have EN : Hid ((L at' row).length = n0) := en
    have hn0 : n0 ≤ 1000 := by have := Bk.row_le (L at') hr; have := HL.out; omega
    have HW : Hid (Rws w5 (.slice (some ⟨ld, 0, none⟩) m lc) m (L at') (fun q => wa.heap.size ≤ q)) := hrl
    have B5 : Hid (Below wa.heap.size wa w5) := hb
    have tl := hrl.head
    have HTl : Hid (Ty w5 ld 31 ∧ wa.heap.size ≤ ld) := ⟨tl.2.1, tl.1⟩
    rw [en] at hcl hol
    have HO2 : Hid (w5.ownsRow 0 3 1 (.slice A n0 C) n0 ((L at' row).map (Value.int .i64))) := by have := hol; unfold RowAt at this; rw [EN.out] at this; exact this
    have HC2 : Hid (w5.cell? ⟨ld, row, none⟩ = some (.slice A n0 C)) := hcl
    have FR : Hid (w5.frozen? ⟨ld, row, none⟩ = false) := hrl.frozen row
    have HQo : Hid (∀ x, (Value.slice A n0 C).ownBlock = some x → wa.heap.size ≤ x ∧ Ty w5 x 3) := by
      rcases hrl with ⟨h, _⟩ | ⟨d, c, F, e, _, hr', _, h1, h2, _⟩
      · cases h
      · cases e
        have hv : F row = .slice A n0 C := by have := hr'.cell (show row < lc by omega); rw [hcl] at this; exact (Option.some.inj this).symm
        intro x ex
        rw [← hv] at ex
        exact ⟨h2 row hr x ex, ty_own (h1 row hr) ex⟩
    have ldlt : ld < w5.heap.size := HTl.out.1.lt
    have Hla : H < wa.heap.size := HHa.out.lt
    have Hl5 : H < w5.heap.size := by have := B5.out.size; omega
    have O5 : Hid (w5.rowIs H 27 4 (opc 1 tb row N)) := HHa.out.of_block (B5.out.block H Hla)
    have o2 : w5.cell? ⟨H, 2, none⟩ = some (.int .i64 (row : Int)) := O5.out.cell (show 2 < 4 by decide)
    have O2 : Hid (w5.cell? ⟨H, 2, none⟩ = some (.int .i64 (row : Int))) := o2
    have rne : Hid (¬ (Value.slice A n0 C).ownBlock = some ld) := fun e => (HQo.out ld e).2.ne HTl.out.1 (by decide) rfl
    have hne : Hid (¬ (Value.slice A n0 C).ownBlock = some H) := fun e => by have := (HQo.out H e).1; omega
    obtain ⟨i0, hi0, hi1, hi2, hi3⟩ := info_parts Try.infoIntG
    clear hrl hb tl hol en
    go_wp2
    have Hld : ¬ H = ld := fun e => by have := HTl.out.2; omega
    have Hld2 : ¬ ld = H := fun e => Hld e.symm
    have oA : (w5.alloc (.cells #[.int .i64 (kk : Int)] 3)).cell? ⟨H, 2, none⟩ = some (.int .i64 (row : Int)) := ((box_below w5 _).cell (p := ⟨H, 2, none⟩) Hl5).trans o2
    go_cut [] from 82 to 93 (fun wc => Below wa.heap.size wa wc ∧ Rws wc (.slice (some ⟨ld, 0, none⟩) m lc) m (Bk.up (L at') row (L at' row ++ [(kk : Int)])) (fun q => col q = 0))
    case first =>
      go_region_law (refine step_append_lies _ (by rfl) _ _ _ (by rfl) 0 3 i0 _ 1 8 Try.underlying31 hi0 hi1 hi2 hi3 rfl (by omega) _ n0 _ (by rfl) (HO2.out.drew.alloc _) ⟨w5.heap.size, 0, none⟩ 1 1 [.int .i64 (kk : Int)] (by rfl) (by rfl) (World.news_of_block (cs := #[.int .i64 (kk : Int)]) (t := 3) (fr := (0, 0)) (heap_alloc_new w5.drew _)) (by simp [Value.oneCell']) (by omega) (by unfold maxLen; omega) (by omega) (by omega) (w5.heap.size + 1) (by simp) ?_; intro gg cap w6 hown1 hgrow hat hlt1; have H6 : Hid (w6.ownsRow 0 3 1 (.slice (some ⟨gg, 0, none⟩) (n0 + 1) cap) (n0 + 1) ((L at' row).map (Value.int .i64) ++ [.int .i64 (kk : Int)])) := hown1; have G6 : Hid (ButQ g b (fun q => wa.heap.size ≤ q) w5 w6 ∧ ∀ j, j < w5.heap.size → ¬ (Value.slice A n0 C).ownBlock = some j → w6.heap[j]? = w5.heap[j]?) := (add_grown (b := b) (g := g) hgrow HQo.out); have T6 : Hid ((Value.slice A n0 C).ownBlock = some gg ∨ gg = w5.heap.size + 1) := hat; have o6 := (World.cell?_of_block (a := ⟨H, 2, none⟩) (G6.out.2 H Hl5 hne.out)).trans O2.out; have rb6 := G6.out.2 ld ldlt rne.out; have cc := (World.cell?_of_block (a := ⟨ld, row, none⟩) rb6).trans HC2.out; have ff := (World.frozen?_of_block (a := ⟨ld, row, none⟩) rb6).trans FR.out; clear hown1 hgrow hat rb6)
      all_goals
        obtain ⟨w7, hw7⟩ : ∃ w7, w6.setCell ⟨ld, row, none⟩ (.slice (some ⟨gg, 0, none⟩) (n0 + 1) cap) = w7 := ⟨_, rfl⟩
        have r7 : Rws w7 (.slice (some ⟨ld, 0, none⟩) m lc) m (Bk.up (L at') row (L at' row ++ [(kk : Int)])) (fun q => col q = 0) := by
          rw [← hw7]
          refine (Rws.more HW.out hr HC2.out (row_snoc H6.out EN.out) (fun x ex => by have ex : some gg = some x := ex; cases ex; exact T6.out.imp id fun e => by omega) (fun j hj hn => G6.out.2 j hj hn)).mono fun q _ hq => FA.out.1 q ?_
          have := B5.out.size
          omega
        have b7 : Below wa.heap.size wa w7 := by
          rw [← hw7]
          have h6 : Below wa.heap.size w5 w6 := ⟨G6.out.1.1, G6.out.1.2.1, G6.out.1.2.2.1, G6.out.1.2.2.2.1, fun j hj => G6.out.2 j (by have := B5.out.size; omega) (fun e => by have := (HQo.out j e).1; omega)⟩
          exact (B5.out.trans h6).setCell (p := ⟨ld, row, none⟩) HTl.out.2 _
        rw [hw7]
        go_wp2
        go_meet
        case rel => exact ⟨b7, r7⟩
    case rest =>
      have B7 : Hid (Below wa.heap.size wa wc) := hcut.1
      have R7 : Hid (Rws wc (.slice (some ⟨ld, 0, none⟩) m lc) m (Bk.up (L at') row (L at' row ++ [(kk : Int)])) (fun q => col q = 0)) := hcut.2
      clear hcut
      have X7 : Hid (Box B wc P g k (.slice b1 n d1) (.slice b2 n d2) (.slice (some ⟨ab, 0, none⟩) k ac) (.slice (some ⟨rb, 0, none⟩) k rc) T D col) := BA.out.keep B7.out
      obtain ⟨⟨_, _, _, _, p7⟩, _⟩ := pl_cells X7.out.1
      obtain ⟨_, _, _, _, ea, eb, _, c7, _, l7⟩ := X7.out.cells hlt
      cases ea
      cases eb
      have f7 : wc.frozen? ⟨rb, at', none⟩ = false := X7.out.2.2.1.frozenAt at'
      clear o2 HC2 HO2 FR rne hne HQo
      go_wp2
      obtain ⟨w8, hw8⟩ : ∃ w8, wc.setCell ⟨rb, at', none⟩ (.slice (some ⟨ld, 0, none⟩) m lc) = w8 := ⟨_, rfl⟩
      have far8 : ∀ q, q < wc.heap.size → ¬ q = rb → w8.heap[q]? = wc.heap[q]? := fun q _ hn => by rw [← hw8]; exact Below.heap_setCell _ _ _ _ (show q ≠ rb from hn)
      have C8 : Hid (Core w8 n m k g b R M T L col) := (CA.out.keep B7.out).one (ty_own X7.out.2.2.1 (q := rb) rfl) (by decide) far8
      have D8 : Hid (Docs w8 n m k (R.set kk 1) (M.set kk mk) (.slice b1 n d1) (.slice b2 n d2) (upd D at' (.slice (some ⟨ld, 0, none⟩) m lc)) (Bk.put L at' (Bk.up (L at') row (L at' row ++ [(kk : Int)]))) col) := ((DA.out.keep B7.out).rows R7.out).one (H := rb) (by have := X7.out.2.2.2.2.2 rb rfl; omega) far8
      have X8 : Hid (Box B w8 P g k (.slice b1 n d1) (.slice b2 n d2) (.slice (some ⟨ab, 0, none⟩) k ac) (.slice (some ⟨rb, 0, none⟩) k rc) T (upd D at' (.slice (some ⟨ld, 0, none⟩) m lc)) col) := by rw [← hw8]; exact X7.out.rows hlt _
      have F8 : Hid (Fresh B w8 col) := FA.out.keep (by rw [← hw8]; have := B7.out.size; simp; omega)
      have Z8 : Hid (Below B u w8) := by rw [← hw8]; exact (ZA.out.trans (B7.out.mono FA.out.2.2)).setCell (p := ⟨rb, at', none⟩) (X7.out.2.2.1.lt rb rfl).1 _
      have O8 : Hid (w8.rowIs H 27 4 (opc 1 tb row N)) := (HHa.out.of_block (B7.out.block H Hla)).of_block (far8 H (by have := B7.out.size; omega) (fun e => by have := X7.out.2.2.2.2.2 rb rfl; have := FU.out.1 H; have t1 := ty_own X7.out.2.2.1 (q := rb) rfl; exact (ty_row (HHa.out.of_block (B7.out.block H Hla))).ne t1 (by decide) e))
      have s2 : w8.cell? ⟨H, 2, none⟩ = some (.int .i64 (row : Int)) := O8.out.cell (show 2 < 4 by decide)
      have s3 : w8.cell? ⟨H, 3, none⟩ = some (.int .i64 N) := O8.out.cell (show 3 < 4 by decide)
      have S23 : Hid (w8.cell? ⟨H, 2, none⟩ = some (.int .i64 (row : Int)) ∧ w8.cell? ⟨H, 3, none⟩ = some (.int .i64 N)) := ⟨s2, s3⟩
      have Hl8 : H < w8.heap.size := O8.out.lt
      rw [hw8]
      clear hw8 far8 p7 c7 f7
      go_region_held3 (fun w' => w'.cell? ⟨H, 2, none⟩ = some (.int .i64 (row : Int)) ∧ w'.cell? ⟨H, 3, none⟩ = some (.int .i64 N))
        (first
          | exact ⟨s2, s3⟩
          | exact ⟨t2, t3⟩
          | exact ⟨y2, y3⟩)
        (first
          | (go_at_call 17; (with_reducible refine (made_b N _).mono ?_); rintro e w9 ⟨q, rfl, hq, _, hb⟩; have B9 : Hid (Below w8.heap.size w8 w9) := ((Below.refl w8.heap.size w8).drew).trans hb; have t2 := (B9.out.cell (p := ⟨H, 2, none⟩) Hl8).trans S23.out.1; have t3 := (B9.out.cell (p := ⟨H, 3, none⟩) Hl8).trans S23.out.2; have Q9 : Hid (PgM w9 q mk) := EM.out ▸ hq; clear hq hb)
          | (go_at_call 16; (refine (add_ok g b n (T at') m row kk q mk R M (L at') _ _ (C8.out.keep B9.out).1 ((C8.out.keep B9.out).2.1 at' hlt).1 hr (by have := Bk.row_le (L at') hr; have := HL.out; omega) HK.out.1 HK.out.2.1 HK.out.2.2 Q9.out).mono ?_); rintro e w10 ⟨rfl, hp, ht, hbq⟩; have P10 : Hid (PoolAt w10 g b n (R.set kk 1) (M.set kk mk)) := hp; have T10 : Hid (Tab w10 g (T at') m (Bk.up (L at') row (L at' row ++ [(kk : Int)])) (fun j => col j = at' + 1 ∨ w9.heap.size ≤ j)) := ht; have Q10 : Hid (ButQ g b (fun q => col q = at' + 1) w9 w10) := hbq; have y2 := (World.cell?_of_block (a := ⟨H, 2, none⟩) (add_far B9.out C8.out Q10.out Hl8 (ty_row O8.out) (by decide) (by decide) (HF.out.1 H (by have := EH.out; omega)))).trans S23.out.1; have y3 := (World.cell?_of_block (a := ⟨H, 3, none⟩) (add_far B9.out C8.out Q10.out Hl8 (ty_row O8.out) (by decide) (by decide) (HF.out.1 H (by have := EH.out; omega)))).trans S23.out.2; clear hp ht hbq))
      all_goals
        go_wp2
        go_ret
        have hcc : ∀ q, q < w9.heap.size → re w9.heap.size w10.heap.size (at' + 1) col q = col q := fun q h => re_old h
        have tt : Tab w10 g (T at') m (Bk.up (L at') row (L at' row ++ [(kk : Int)])) (fun q => re w9.heap.size w10.heap.size (at' + 1) col q = at' + 1) := T10.out.mono fun q hl hq => by
          by_cases e : q < w9.heap.size
          · rw [re_old e]; omega
          · exact re_new (by omega) hl
        have q' : ButQ g b (fun q => re w9.heap.size w10.heap.size (at' + 1) col q = at' + 1) w9 w10 := Q10.out.mono fun q hl hq => by rw [hcc q hl]; exact hq
        have c9 := C8.out.keep B9.out
        have c9' := c9.recol hcc
        have f9 := F8.out.keep B9.out.size
        have cF := c9.but hlt Q10.out (by omega) P10.out tt hcc
        have dF := ((D8.out.keep B9.out).recol hcc).but q' c9'.2.2.1 c9'.2.2.2 (by omega)
        have xF := ((X8.out.keep B9.out).recol hcc).but c9'.1 q' (by omega)
        exact ⟨rfl, _, _, _, _, cF, dF, xF, f9.re (at' + 1) Q10.out.size (Nat.le_refl _) (Nat.le_refl _), (UB.out.mono HF.out.2.2).trans (Z8.out.trans ((B9.out.mono F8.out.2.2).trans (Q10.out.below BP.out.2.1 BP.out.2.2 f9.2.2 (fun q hq => FU.out.2.1 q (by have : col q = at' + 1 := hq; omega)))))⟩
  · obtain ⟨v, hv⟩ : ∃ v, (w1.setCell ⟨H + 1, 0, none⟩ (.slice b1 n d1)).setCell ⟨H + 1, 1, none⟩ (.slice b2 n d2) = v := ⟨_, rfl⟩
    obtain ⟨X, hX⟩ : ∃ X, H + 1 = X := ⟨_, rfl⟩
    have VV : Hid (Below u.heap.size u v) := by rw [← hv]; exact (BB.out.setCell (p := ⟨H + 1, 0, none⟩) (by show u.heap.size ≤ H + 1; omega) _).setCell (p := ⟨H + 1, 1, none⟩) (by show u.heap.size ≤ H + 1; omega) _
    have XV : Hid (v.rowIs X 33 2 (rfc (.slice b1 n d1) (.slice b2 n d2))) := by rw [← hv, ← hX]; exact ((X1.out.set 0 _).congr (fun j hj => rfc_set0 _ _ _ j hj)).set 1 _ |>.congr (fun j hj => rfc_set1 _ _ _ j hj)
    have LV : Hid (Lst .i64 v b1 (R.set kk 1) ∧ Lst .i64 v b2 (M.set kk mk) ∧ (b1 = none → d1 = 0) ∧ (b2 = none → d2 = 0) ∧ (∀ x, b1 = some x → u.heap.size ≤ x.block) ∧ ∀ x, b2 = some x → u.heap.size ≤ x.block) := by
      refine ⟨?_, ?_, L1.out.2.2.1, L1.out.2.2.2.1, fun x ex => by have := L1.out.2.2.2.2.1 x ex; omega, fun x ex => by have := L1.out.2.2.2.2.2 x ex; omega⟩
      · rw [← hv]; exact (L1.out.1.stand fun x ex _ _ => by rw [Below.heap_setCell _ _ _ _ (show x.block ≠ H + 1 from fun e => by have := L1.out.2.2.2.2.1 x ex; omega), Below.heap_setCell _ _ _ _ (show x.block ≠ H + 1 from fun e => by have := L1.out.2.2.2.2.1 x ex; omega)])
      · rw [← hv]; exact (L1.out.2.1.stand fun x ex _ _ => by rw [Below.heap_setCell _ _ _ _ (show x.block ≠ H + 1 from fun e => by have := L1.out.2.2.2.2.2 x ex; omega), Below.heap_setCell _ _ _ _ (show x.block ≠ H + 1 from fun e => by have := L1.out.2.2.2.2.2 x ex; omega)])
    have PX : Hid (u.heap.size ≤ X) := by rw [← hX]; have := BB.out.size; show u.heap.size ≤ _; omega
    rw [hv, hX]
    clear hv hX L1 BB
    have x0 : v.cell? ⟨X, 0, none⟩ = some (.slice b1 n d1) := XV.out.cell (show 0 < 2 by decide)
    have x1 : v.cell? ⟨X, 1, none⟩ = some (.slice b2 n d2) := XV.out.cell (show 1 < 2 by decide)
    have hsv := VV.out.size
    have DV : Hid (Docs v n m k (R.set kk 1) (M.set kk mk) (.slice b1 n d1) (.slice b2 n d2) D L col) := (DU.out.keep VV.out).lists LV.out.1 LV.out.2.1 LV.out.2.2.1 LV.out.2.2.2.1 (fun x ex _ => FU.out.1 _ (LV.out.2.2.2.2.1 x ex)) (fun x ex _ => FU.out.1 _ (LV.out.2.2.2.2.2 x ex)) (by rw [List.length_set]; exact (d_list2 DU.out).2.2.1) (by rw [List.length_set]; exact (d_list2 DU.out).2.2.2.1)
    have CV : Hid (Core v n m k g b R M T L col) := CU.out.keep VV.out
    have BV : Hid (Box B v P g k (.slice a1 n c1) (.slice a2 n c2) (.slice (some ⟨ab, 0, none⟩) k ac) (.slice (some ⟨rb, 0, none⟩) k rc) T D col) := BU.out.keep VV.out
    have FV : Hid (Fresh B v col) := FU.out.keep hsv
    obtain ⟨⟨_, y1, y2, _, _⟩, yf⟩ := pl_cells BV.out.1
    have yf1 := yf 1
    have yf2 := yf 2
    have plv : P < v.heap.size := BV.out.1.lt
    clear yf p1 p2 q2 q3 v1 v2 v3 r1 r2 r3
    go_wp2_with fail
    obtain ⟨wa, hwa⟩ : ∃ wa, (v.setCell ⟨P, 1, none⟩ (.slice b1 n d1)).setCell ⟨P, 2, none⟩ (.slice b2 n d2) = wa := ⟨_, rfl⟩
    have farA : ∀ q, q < v.heap.size → ¬ q = P → wa.heap[q]? = v.heap[q]? := fun q _ hn => by rw [← hwa, Below.heap_setCell _ _ _ _ (show q ≠ P from hn), Below.heap_setCell _ _ _ _ (show q ≠ P from hn)]
    have sA : wa.heap.size = v.heap.size := by rw [← hwa]; simp
    have CA : Hid (Core wa n m k g b R M T L col) := CV.out.one (ty_row BV.out.1) (by decide) farA
    have DA : Hid (Docs wa n m k (R.set kk 1) (M.set kk mk) (.slice b1 n d1) (.slice b2 n d2) D L col) := DV.out.one (H := P) (by have := BV.out.2.2.2.1; omega) farA
    have BA : Hid (Box B wa P g k (.slice b1 n d1) (.slice b2 n d2) (.slice (some ⟨ab, 0, none⟩) k ac) (.slice (some ⟨rb, 0, none⟩) k rc) T D col) := by rw [← hwa]; exact BV.out.pool
    have FA : Hid (Fresh B wa col) := FV.out.keep (by omega)
    have ZA : Hid (Below B u wa) := by rw [← hwa]; exact ((VV.out.mono FU.out.2.2).setCell (p := ⟨P, 1, none⟩) BP.out.1 _).setCell (p := ⟨P, 2, none⟩) BP.out.1 _
    have HHa : Hid (wa.rowIs H 27 4 (opc 1 tb row N)) := (UO.out.of_block (VV.out.block H Hlt)).of_block (farA H (by have := VV.out.size; omega) (by have := EH.out; omega))
    have HRa : Hid (Rws wa (.slice da m dc) m (L at') (fun q => col q = 0)) := by have := DA.out.2 at' hlt; rw [HE.out] at this; exact this
    rw [hwa]
    clear hwa farA sA y1 y2 yf1 yf2 x0 x1 plv hsv CV DV BV FV XV LV VV
    refine (copied_any _ m (L at') _ _ HRa.out hm (by have := HL.out; omega)).mono ?_
    rintro e w5 ⟨lv, rfl, hrl, hb⟩
    obtain ⟨ld, lc, A, C, elv, hcl, hol, _⟩ := hrl.cell hr
    subst elv
    obtain ⟨n0, en⟩ : ∃ n0, (L at' row).length = n0 := ⟨_, rfl⟩
    have EN : Hid ((L at' row).length = n0) := en
    have hn0 : n0 ≤ 1000 := by have := Bk.row_le (L at') hr; have := HL.out; omega
    have HW : Hid (Rws w5 (.slice (some ⟨ld, 0, none⟩) m lc) m (L at') (fun q => wa.heap.size ≤ q)) := hrl
    have B5 : Hid (Below wa.heap.size wa w5) := hb
    have tl := hrl.head
    have HTl : Hid (Ty w5 ld 31 ∧ wa.heap.size ≤ ld) := ⟨tl.2.1, tl.1⟩
    rw [en] at hcl hol
    have HO2 : Hid (w5.ownsRow 0 3 1 (.slice A n0 C) n0 ((L at' row).map (Value.int .i64))) := by have := hol; unfold RowAt at this; rw [EN.out] at this; exact this
    have HC2 : Hid (w5.cell? ⟨ld, row, none⟩ = some (.slice A n0 C)) := hcl
    have FR : Hid (w5.frozen? ⟨ld, row, none⟩ = false) := hrl.frozen row
    have HQo : Hid (∀ x, (Value.slice A n0 C).ownBlock = some x → wa.heap.size ≤ x ∧ Ty w5 x 3) := by
      rcases hrl with ⟨h, _⟩ | ⟨d, c, F, e, _, hr', _, h1, h2, _⟩
      · cases h
      · cases e
        have hv : F row = .slice A n0 C := by have := hr'.cell (show row < lc by omega); rw [hcl] at this; exact (Option.some.inj this).symm
        intro x ex
        rw [← hv] at ex
        exact ⟨h2 row hr x ex, ty_own (h1 row hr) ex⟩
    have ldlt : ld < w5.heap.size := HTl.out.1.lt
    have Hla : H < wa.heap.size := HHa.out.lt
    have Hl5 : H < w5.heap.size := by have := B5.out.size; omega
    have O5 : Hid (w5.rowIs H 27 4 (opc 1 tb row N)) := HHa.out.of_block (B5.out.block H Hla)
    have o2 : w5.cell? ⟨H, 2, none⟩ = some (.int .i64 (row : Int)) := O5.out.cell (show 2 < 4 by decide)
    have O2 : Hid (w5.cell? ⟨H, 2, none⟩ = some (.int .i64 (row : Int))) := o2
    have rne : Hid (¬ (Value.slice A n0 C).ownBlock = some ld) := fun e => (HQo.out ld e).2.ne HTl.out.1 (by decide) rfl
    have hne : Hid (¬ (Value.slice A n0 C).ownBlock = some H) := fun e => by have := (HQo.out H e).1; omega
    obtain ⟨i0, hi0, hi1, hi2, hi3⟩ := info_parts Try.infoIntG
    clear hrl hb tl hol en
    go_wp2
    have Hld : ¬ H = ld := fun e => by have := HTl.out.2; omega
    have Hld2 : ¬ ld = H := fun e => Hld e.symm
    have oA : (w5.alloc (.cells #[.int .i64 (kk : Int)] 3)).cell? ⟨H, 2, none⟩ = some (.int .i64 (row : Int)) := ((box_below w5 _).cell (p := ⟨H, 2, none⟩) Hl5).trans o2
    go_cut [] from 82 to 93 (fun wc => Below wa.heap.size wa wc ∧ Rws wc (.slice (some ⟨ld, 0, none⟩) m lc) m (Bk.up (L at') row (L at' row ++ [(kk : Int)])) (fun q => col q = 0))
    case first =>
      go_region_law (refine step_append_lies _ (by rfl) _ _ _ (by rfl) 0 3 i0 _ 1 8 Try.underlying31 hi0 hi1 hi2 hi3 rfl (by omega) _ n0 _ (by rfl) (HO2.out.drew.alloc _) ⟨w5.heap.size, 0, none⟩ 1 1 [.int .i64 (kk : Int)] (by rfl) (by rfl) (World.news_of_block (cs := #[.int .i64 (kk : Int)]) (t := 3) (fr := (0, 0)) (heap_alloc_new w5.drew _)) (by simp [Value.oneCell']) (by omega) (by unfold maxLen; omega) (by omega) (by omega) (w5.heap.size + 1) (by simp) ?_; intro gg cap w6 hown1 hgrow hat hlt1; have H6 : Hid (w6.ownsRow 0 3 1 (.slice (some ⟨gg, 0, none⟩) (n0 + 1) cap) (n0 + 1) ((L at' row).map (Value.int .i64) ++ [.int .i64 (kk : Int)])) := hown1; have G6 : Hid (ButQ g b (fun q => wa.heap.size ≤ q) w5 w6 ∧ ∀ j, j < w5.heap.size → ¬ (Value.slice A n0 C).ownBlock = some j → w6.heap[j]? = w5.heap[j]?) := (add_grown (b := b) (g := g) hgrow HQo.out); have T6 : Hid ((Value.slice A n0 C).ownBlock = some gg ∨ gg = w5.heap.size + 1) := hat; have o6 := (World.cell?_of_block (a := ⟨H, 2, none⟩) (G6.out.2 H Hl5 hne.out)).trans O2.out; have rb6 := G6.out.2 ld ldlt rne.out; have cc := (World.cell?_of_block (a := ⟨ld, row, none⟩) rb6).trans HC2.out; have ff := (World.frozen?_of_block (a := ⟨ld, row, none⟩) rb6).trans FR.out; clear hown1 hgrow hat rb6)
      all_goals
        obtain ⟨w7, hw7⟩ : ∃ w7, w6.setCell ⟨ld, row, none⟩ (.slice (some ⟨gg, 0, none⟩) (n0 + 1) cap) = w7 := ⟨_, rfl⟩
        have r7 : Rws w7 (.slice (some ⟨ld, 0, none⟩) m lc) m (Bk.up (L at') row (L at' row ++ [(kk : Int)])) (fun q => col q = 0) := by
          rw [← hw7]
          refine (Rws.more HW.out hr HC2.out (row_snoc H6.out EN.out) (fun x ex => by have ex : some gg = some x := ex; cases ex; exact T6.out.imp id fun e => by omega) (fun j hj hn => G6.out.2 j hj hn)).mono fun q _ hq => FA.out.1 q ?_
          have := B5.out.size
          omega
        have b7 : Below wa.heap.size wa w7 := by
          rw [← hw7]
          have h6 : Below wa.heap.size w5 w6 := ⟨G6.out.1.1, G6.out.1.2.1, G6.out.1.2.2.1, G6.out.1.2.2.2.1, fun j hj => G6.out.2 j (by have := B5.out.size; omega) (fun e => by have := (HQo.out j e).1; omega)⟩
          exact (B5.out.trans h6).setCell (p := ⟨ld, row, none⟩) HTl.out.2 _
        rw [hw7]
        go_wp2
        go_meet
        case rel => exact ⟨b7, r7⟩
    case rest =>
      have B7 : Hid (Below wa.heap.size wa wc) := hcut.1
      have R7 : Hid (Rws wc (.slice (some ⟨ld, 0, none⟩) m lc) m (Bk.up (L at') row (L at' row ++ [(kk : Int)])) (fun q => col q = 0)) := hcut.2
      clear hcut
      have X7 : Hid (Box B wc P g k (.slice b1 n d1) (.slice b2 n d2) (.slice (some ⟨ab, 0, none⟩) k ac) (.slice (some ⟨rb, 0, none⟩) k rc) T D col) := BA.out.keep B7.out
      obtain ⟨⟨_, _, _, _, p7⟩, _⟩ := pl_cells X7.out.1
      obtain ⟨_, _, _, _, ea, eb, _, c7, _, l7⟩ := X7.out.cells hlt
      cases ea
      cases eb
      have f7 : wc.frozen? ⟨rb, at', none⟩ = false := X7.out.2.2.1.frozenAt at'
      clear o2 HC2 HO2 FR rne hne HQo
      go_wp2
      obtain ⟨w8, hw8⟩ : ∃ w8, wc.setCell ⟨rb, at', none⟩ (.slice (some ⟨ld, 0, none⟩) m lc) = w8 := ⟨_, rfl⟩
      have far8 : ∀ q, q < wc.heap.size → ¬ q = rb → w8.heap[q]? = wc.heap[q]? := fun q _ hn => by rw [← hw8]; exact Below.heap_setCell _ _ _ _ (show q ≠ rb from hn)
      have C8 : Hid (Core w8 n m k g b R M T L col) := (CA.out.keep B7.out).one (ty_own X7.out.2.2.1 (q := rb) rfl) (by decide) far8
      have D8 : Hid (Docs w8 n m k (R.set kk 1) (M.set kk mk) (.slice b1 n d1) (.slice b2 n d2) (upd D at' (.slice (some ⟨ld, 0, none⟩) m lc)) (Bk.put L at' (Bk.up (L at') row (L at' row ++ [(kk : Int)]))) col) := ((DA.out.keep B7.out).rows R7.out).one (H := rb) (by have := X7.out.2.2.2.2.2 rb rfl; omega) far8
      have X8 : Hid (Box B w8 P g k (.slice b1 n d1) (.slice b2 n d2) (.slice (some ⟨ab, 0, none⟩) k ac) (.slice (some ⟨rb, 0, none⟩) k rc) T (upd D at' (.slice (some ⟨ld, 0, none⟩) m lc)) col) := by rw [← hw8]; exact X7.out.rows hlt _
      have F8 : Hid (Fresh B w8 col) := FA.out.keep (by rw [← hw8]; have := B7.out.size; simp; omega)
      have Z8 : Hid (Below B u w8) := by rw [← hw8]; exact (ZA.out.trans (B7.out.mono FA.out.2.2)).setCell (p := ⟨rb, at', none⟩) (X7.out.2.2.1.lt rb rfl).1 _
      have O8 : Hid (w8.rowIs H 27 4 (opc 1 tb row N)) := (HHa.out.of_block (B7.out.block H Hla)).of_block (far8 H (by have := B7.out.size; omega) (fun e => by have := X7.out.2.2.2.2.2 rb rfl; have := FU.out.1 H; have t1 := ty_own X7.out.2.2.1 (q := rb) rfl; exact (ty_row (HHa.out.of_block (B7.out.block H Hla))).ne t1 (by decide) e))
      have s2 : w8.cell? ⟨H, 2, none⟩ = some (.int .i64 (row : Int)) := O8.out.cell (show 2 < 4 by decide)
      have s3 : w8.cell? ⟨H, 3, none⟩ = some (.int .i64 N) := O8.out.cell (show 3 < 4 by decide)
      have S23 : Hid (w8.cell? ⟨H, 2, none⟩ = some (.int .i64 (row : Int)) ∧ w8.cell? ⟨H, 3, none⟩ = some (.int .i64 N)) := ⟨s2, s3⟩
      have Hl8 : H < w8.heap.size := O8.out.lt
      rw [hw8]
      clear hw8 far8 p7 c7 f7
      go_region_held3 (fun w' => w'.cell? ⟨H, 2, none⟩ = some (.int .i64 (row : Int)) ∧ w'.cell? ⟨H, 3, none⟩ = some (.int .i64 N))
        (first
          | exact ⟨s2, s3⟩
          | exact ⟨t2, t3⟩
          | exact ⟨y2, y3⟩)
        (first
          | (go_at_call 17; (with_reducible refine (made_b N _).mono ?_); rintro e w9 ⟨q, rfl, hq, _, hb⟩; have B9 : Hid (Below w8.heap.size w8 w9) := ((Below.refl w8.heap.size w8).drew).trans hb; have t2 := (B9.out.cell (p := ⟨H, 2, none⟩) Hl8).trans S23.out.1; have t3 := (B9.out.cell (p := ⟨H, 3, none⟩) Hl8).trans S23.out.2; have Q9 : Hid (PgM w9 q mk) := EM.out ▸ hq; clear hq hb)
          | (go_at_call 16; (refine (add_ok g b n (T at') m row kk q mk R M (L at') _ _ (C8.out.keep B9.out).1 ((C8.out.keep B9.out).2.1 at' hlt).1 hr (by have := Bk.row_le (L at') hr; have := HL.out; omega) HK.out.1 HK.out.2.1 HK.out.2.2 Q9.out).mono ?_); rintro e w10 ⟨rfl, hp, ht, hbq⟩; have P10 : Hid (PoolAt w10 g b n (R.set kk 1) (M.set kk mk)) := hp; have T10 : Hid (Tab w10 g (T at') m (Bk.up (L at') row (L at' row ++ [(kk : Int)])) (fun j => col j = at' + 1 ∨ w9.heap.size ≤ j)) := ht; have Q10 : Hid (ButQ g b (fun q => col q = at' + 1) w9 w10) := hbq; have y2 := (World.cell?_of_block (a := ⟨H, 2, none⟩) (add_far B9.out C8.out Q10.out Hl8 (ty_row O8.out) (by decide) (by decide) (HF.out.1 H (by have := EH.out; omega)))).trans S23.out.1; have y3 := (World.cell?_of_block (a := ⟨H, 3, none⟩) (add_far B9.out C8.out Q10.out Hl8 (ty_row O8.out) (by decide) (by decide) (HF.out.1 H (by have := EH.out; omega)))).trans S23.out.2; clear hp ht hbq))
      all_goals
        go_wp2
        go_ret
        have hcc : ∀ q, q < w9.heap.size → re w9.heap.size w10.heap.size (at' + 1) col q = col q := fun q h => re_old h
        have tt : Tab w10 g (T at') m (Bk.up (L at') row (L at' row ++ [(kk : Int)])) (fun q => re w9.heap.size w10.heap.size (at' + 1) col q = at' + 1) := T10.out.mono fun q hl hq => by
          by_cases e : q < w9.heap.size
          · rw [re_old e]; omega
          · exact re_new (by omega) hl
        have q' : ButQ g b (fun q => re w9.heap.size w10.heap.size (at' + 1) col q = at' + 1) w9 w10 := Q10.out.mono fun q hl hq => by rw [hcc q hl]; exact hq
        have c9 := C8.out.keep B9.out
        have c9' := c9.recol hcc
        have f9 := F8.out.keep B9.out.size
        have cF := c9.but hlt Q10.out (by omega) P10.out tt hcc
        have dF := ((D8.out.keep B9.out).recol hcc).but q' c9'.2.2.1 c9'.2.2.2 (by omega)
        have xF := ((X8.out.keep B9.out).recol hcc).but c9'.1 q' (by omega)
        exact ⟨rfl, _, _, _, _, cF, dF, xF, f9.re (at' + 1) Q10.out.size (Nat.le_refl _) (Nat.le_refl _), (UB.out.mono HF.out.2.2).trans (Z8.out.trans ((B9.out.mono F8.out.2.2).trans (Q10.out.below BP.out.2.1 BP.out.2.2 f9.2.2 (fun q hq => FU.out.2.1 q (by have : col q = at' + 1 := hq; omega)))))⟩
end Go.Proofs.Ytpifemahakbegaa
