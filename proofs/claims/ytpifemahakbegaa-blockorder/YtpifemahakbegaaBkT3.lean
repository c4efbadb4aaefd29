/- One call of layer 11's law: Clear. -/
import Derived.Test.YtpifemahakbegaaBkT0
import Derived.Deep.CutRange
import Derived.Deep.DeepCutAuto
namespace Go.Proofs.Ytpifemahakbegaa
set_option linter.unusedVariables false
set_option linter.unusedSimpArgs false
open Go.RowKit

set_option maxRecDepth 100000 in
set_option maxHeartbeats 3200000 in
theorem step3_ok (B P n m k g b at' : Nat) (tb row N : Int) (R M : List Int) (s1 s2 va vr : Value) (T : Nat → Nat) (D : Nat → Value) (L : Nat → Nat → List Int) (col : Nat → Nat) (w : World) (hC : Core w n m k g b R M T L col) (hD : Docs w n m k R M s1 s2 D L col) (hB : Box B w P g k s1 s2 va vr T D col) (hF : Fresh B w col)
    (hmx : max tb 0 % (k : Int) = (at' : Int)) (hk : 0 < k) (hk6 : k ≤ 6) (hm : m ≤ 16) (hn : n ≤ 16384) (hx : ∀ x, x ∈ Bk.flat (L at') m → 0 ≤ x ∧ x < n) (ho : ∀ t : Nat, t < n → (Bk.occ t (Bk.flat (L at') m) : Int) ≤ Ls.nth R t) (hb : ∀ t, t < n → Ls.nth R t ≤ 1000) (hl : Bk.len (L at') m ≤ 1000) :
    Calls Try.prog 9 #[.pointer (some ⟨P, 0, none⟩), .agg #[.int .i64 3, .int .i64 tb, .int .i64 row, .int .i64 N]] w fun e w' => e = .returned (.bool true) ∧ ∃ t1 D', Core w' n m k g b (Bk.bump R (-1) (Bk.flat (L at') m)) M T (Bk.put L at' (fun _ => [])) col ∧ Docs w' n m k (Bk.bump R (-1) (Bk.flat (L at') m)) M t1 s2 D' (Bk.put L at' (fun _ => [])) col ∧
      Box B w' P g k t1 s2 va vr T D' col ∧ Fresh B w' col ∧ Below B w w' := by
  have hlt : at' < k := by have := Int.emod_lt_of_pos (max tb 0) (show (0 : Int) < k by omega); omega
  obtain ⟨ab, ac, rb, rc, rfl, rfl, t0, d0, l1, l2⟩ := hB.cells hlt
  obtain ⟨da, dc, ed⟩ := (hD.2 at' hlt).slice
  rw [ed] at d0
  obtain ⟨⟨p0, p1, p2, p3, p4⟩, _⟩ := pl_cells hB.1
  obtain ⟨a1, c1, a2, c2, ei, ej, _⟩ := hD.1
  subst ei ej
  have plt : P < w.heap.size := hB.1.lt
  have HC : Hid (Core w n m k g b R M T L col) := hC
  have HD : Hid (Docs w n m k R M (.slice a1 n c1) (.slice a2 n c2) D L col) := hD
  have HB : Hid (Box B w P g k (.slice a1 n c1) (.slice a2 n c2) (.slice (some ⟨ab, 0, none⟩) k ac) (.slice (some ⟨rb, 0, none⟩) k rc) T D col) := hB
  have HF : Hid (Fresh B w col) := hF
  have HE : Hid (D at' = .slice da m dc) := ed
  have HX : Hid ((∀ x, x ∈ Bk.flat (L at') m → 0 ≤ x ∧ x < n) ∧ (∀ t : Nat, t < n → (Bk.occ t (Bk.flat (L at') m) : Int) ≤ Ls.nth R t) ∧ (∀ t, t < n → Ls.nth R t ≤ 1000) ∧ Bk.len (L at') m ≤ 1000) := ⟨hx, ho, hb, hl⟩
  clear hx ho hb hl
  clear hC hD hB hF p0 ed
  obtain ⟨H, eH⟩ : ∃ H, w.heap.size = H := ⟨_, rfl⟩
  have EH : Hid (w.heap.size = H) := eH
  go_enter Try.func9, Try.ntmps9
  clear eH
  go_wp2
  go_region
  go_wp2
  go_region
  obtain ⟨u, hu⟩ : ∃ u, (w.alloc (.cells #[.int .i64 3, .int .i64 tb, .int .i64 row, .int .i64 N] 27)).drew.drew = u := ⟨_, rfl⟩
  have UB : Hid (Below w.heap.size w u) := by rw [← hu]; exact (box_below _ _).drew.drew
  have UO : Hid (u.rowIs H 27 4 (opc 3 tb row N)) := by rw [← hu, ← EH.out]; exact (op_alloc w 3 tb row N).drew.drew
  have US : u.heap.size = H + 1 := by rw [← hu, ← EH.out]; simp
  have CU : Hid (Core u n m k g b R M T L col) := HC.out.keep UB.out
  have DU : Hid (Docs u n m k R M (.slice a1 n c1) (.slice a2 n c2) D L col) := HD.out.keep UB.out
  have BU : Hid (Box B u P g k (.slice a1 n c1) (.slice a2 n c2) (.slice (some ⟨ab, 0, none⟩) k ac) (.slice (some ⟨rb, 0, none⟩) k rc) T D col) := HB.out.keep UB.out
  have FU : Hid (Fresh B u col) := HF.out.keep UB.out.size
  have q0 : u.cell? ⟨H, 0, none⟩ = some (.int .i64 3) := UO.out.cell (show 0 < 4 by decide)
  have q2 : u.cell? ⟨H, 2, none⟩ = some (.int .i64 row) := UO.out.cell (show 2 < 4 by decide)
  have q3 : u.cell? ⟨H, 3, none⟩ = some (.int .i64 N) := UO.out.cell (show 3 < 4 by decide)
  have Q2 : Hid (u.cell? ⟨H, 2, none⟩ = some (.int .i64 row)) := q2
  have Q3 : Hid (u.cell? ⟨H, 3, none⟩ = some (.int .i64 N)) := q3
  have Hlt : H < u.heap.size := by omega
  clear t0 d0 p1 p2 p3 p4 l1 l2
  rw [hu, EH.out]
  clear hu
  have BP : Hid (B ≤ P ∧ B ≤ g ∧ B ≤ b) := ⟨FU.out.2.1 P (by have := BU.out.2.2.2.1; omega), FU.out.2.1 g (by have := CU.out.2.2.1; omega), FU.out.2.1 b (by have := CU.out.2.2.2; omega)⟩
  go_upto_region 3 with (fail)
  rw [hmx]
  go_cut [8] from 38 to 47 (fun v wc => (∃ q : Bool, v = .bool q) ∧ wc = u)
  case first =>
    go_wp2
    all_goals
      go_meet
      case rel => exact ⟨⟨_, rfl⟩, rfl⟩
  case rest =>
    obtain ⟨⟨tq, rfl⟩, hwc⟩ := hcut
    have hwc2 := hwc.symm
    clear hwc
    subst hwc2
    go_wp2_with (first
      | (go_at_call 11; refine (clear_any g b n (T at') m R M (L at') _ _ CU.out.1 (CU.out.2.1 at' hlt).1 hm HX.out.2.2.2 HX.out.1 HX.out.2.1 HX.out.2.2.1).mono ?_; rintro e w1 ⟨rfl, hp, ht, hbq⟩; have C1 : Hid (Core w1 n m k g b (Bk.bump R (-1) (Bk.flat (L at') m)) M T (Bk.put L at' (fun _ => [])) col) := CU.out.but hlt hbq (by omega) hp ht (fun _ _ => rfl); have D1 : Hid (Docs w1 n m k R M (.slice a1 n c1) (.slice a2 n c2) D L col) := DU.out.but hbq CU.out.2.2.1 CU.out.2.2.2 (by omega); have X1 : Hid (Box B w1 P g k (.slice a1 n c1) (.slice a2 n c2) (.slice (some ⟨ab, 0, none⟩) k ac) (.slice (some ⟨rb, 0, none⟩) k rc) T D col) := BU.out.but CU.out.1 hbq (by omega); have F1 : Hid (Fresh B w1 col) := FU.out.keep hbq.size; have Z1 : Hid (Below B u w1) := hbq.below BP.out.2.1 BP.out.2.2 FU.out.2.2 (fun q hq => FU.out.2.1 q (by have : col q = at' + 1 := hq; omega)); clear hp ht hbq)
      | (go_at_call 28; refine (change_any P g m n _ a1 c1 _ _ _ (-1) R (L at') _ _ X1.out.1 (HE.out ▸ D1.out.2 at' hlt) (d_list D1.out).1 (d_list D1.out).2.1 (d_list D1.out).2.2.1 ⟨a2, n, c2, rfl⟩ hm hn HX.out.2.2.2 (Or.inr rfl) (turns_down (d_list D1.out).2.1 HX.out.1 HX.out.2.1 HX.out.2.2.1)).mono ?_; rintro e w2 ⟨rfl, a3, c3, hr2, hl2, hn2, hc2, hbp⟩; have R2 : Hid (w2.rowIs P 37 5 (plc g (.slice a3 n c3) (.slice a2 n c2) (.slice (some ⟨ab, 0, none⟩) k ac) (.slice (some ⟨rb, 0, none⟩) k rc))) := hr2; have L2 : Hid (Lst .i64 w2 a3 (Bk.bump R (-1) (Bk.flat (L at') m)) ∧ (a3 = none → c3 = 0) ∧ ∀ x, a3 = some x → a1 = some x ∨ w1.heap.size ≤ x.block) := ⟨hl2, hn2, hc2⟩; have P2 : Hid (ButP P w1 w2) := hbp; clear hr2 hl2 hn2 hc2 hbp))
    have C2 : Hid (Core w2 n m k g b (Bk.bump R (-1) (Bk.flat (L at') m)) M T (Bk.put L at' (fun _ => [])) col) := C1.out.one (ty_row X1.out.1) (by decide) (fun q hq hn => P2.out.block hq hn hn id)
    have D2 : Hid (Docs w2 n m k (Bk.bump R (-1) (Bk.flat (L at') m)) M (.slice a3 n c3) (.slice a2 n c2) D L col) := (D1.out.one (H := P) (by have := X1.out.2.2.2.1; omega) (fun q hq hn => P2.out.block hq hn hn id)).list1 L2.out.1 L2.out.2.1 (fun x ex hp => by
      rcases L2.out.2.2 x ex with q | q
      · exact (d_list D1.out).2.2.2 x q hp
      · exact F1.out.1 _ q) (by rw [Bk.bump_length]; exact (d_list D1.out).2.1)
    have X2 : Hid (Box B w2 P g k (.slice a3 n c3) (.slice a2 n c2) (.slice (some ⟨ab, 0, none⟩) k ac) (.slice (some ⟨rb, 0, none⟩) k rc) T D col) := X1.out.ButP P2.out R2.out
    have F2 : Hid (Fresh B w2 col) := F1.out.keep P2.out.size
    have Z2 : Hid (Below B u w2) := Z1.out.trans (P2.out.below BP.out.1 F1.out.2.2)
    obtain ⟨⟨_, _, _, _, p4⟩, _⟩ := pl_cells X2.out.1
    obtain ⟨_, _, _, _, ea, eb, _, r4, _, l4⟩ := X2.out.cells hlt
    cases ea
    cases eb
    have plt2 : P < w2.heap.size := X2.out.1.lt
    have rfz : w2.frozen? ⟨rb, at', none⟩ = false := X2.out.2.2.1.frozenAt at'
    have hmk := run_make_row' (P := Try.prog) 53 31 (.slice none 0 0) 24 Try.underlying53 Try.infoSlices rfl .i64 .i64 m (by omega) (by omega)
    rw [HE.out] at r4
    clear C1 D1 X1 F1 Z1 P2 L2 R2
    go_wp2
    go_region
    all_goals
      go_wp2
      go_ret
      have b3 : Below w2.heap.size w2 (w2.alloc (.cells (madeCells #[.slice none 0 0] m) 31)) := box_below _ _
      have f3 := F2.out.keep b3.size
      have v3 : Rws (w2.alloc (.cells (madeCells #[.slice none 0 0] m) 31)) (.slice (some ⟨w2.heap.size, 0, none⟩) m m) m (fun _ => []) (fun q => col q = 0) := rws_made (World.rowIs_made w2 _ m _) (F2.out.1 _ (Nat.le_refl _))
      have d3 := (D2.out.keep b3).rows (a := at') v3
      have x3 := X2.out.keep b3
      have c3' := C2.out.keep b3
      have tr := ty_own x3.2.2.1 (q := rb) rfl
      have far : ∀ (v : Value) q, q < (w2.alloc (.cells (madeCells #[.slice none 0 0] m) 31)).heap.size → ¬ q = rb → ((w2.alloc (.cells (madeCells #[.slice none 0 0] m) 31)).setCell ⟨rb, at', none⟩ v).heap[q]? = (w2.alloc (.cells (madeCells #[.slice none 0 0] m) 31)).heap[q]? := fun v q _ hn => Below.heap_setCell _ _ _ _ (show q ≠ rb from hn)
      have br : B ≤ rb := (X2.out.2.2.1.lt rb rfl).1
      have hw := World.setCell_alloc_past (w := w2) (.cells (madeCells #[.slice none 0 0] m) 31) rb at' (.slice (some ⟨w2.heap.size, 0, none⟩) m m) l4
      obtain ⟨w4, hw4⟩ : ∃ w4, (w2.alloc (.cells (madeCells #[.slice none 0 0] m) 31)).setCell ⟨rb, at', none⟩ (.slice (some ⟨w2.heap.size, 0, none⟩) m m) = w4 := ⟨_, rfl⟩
      have cF := c3'.one tr (by decide) (far (.slice (some ⟨w2.heap.size, 0, none⟩) m m))
      have dF := d3.one (H := rb) (by have := x3.2.2.2.2.2 rb rfl; omega) (far (.slice (some ⟨w2.heap.size, 0, none⟩) m m))
      have xF := x3.rows hlt (.slice (some ⟨w2.heap.size, 0, none⟩) m m)
      have zF := (UB.out.mono HF.out.2.2).trans ((Z2.out.trans (b3.mono F2.out.2.2)).setCell (p := ⟨rb, at', none⟩) br (.slice (some ⟨w2.heap.size, 0, none⟩) m m))
      have sF : w2.heap.size ≤ w4.heap.size := by rw [← hw4]; simp
      rw [hw4] at hw cF dF xF zF
      rw [← hw]
      have bd : Below w4.heap.size w4 w4.drew := (Below.refl _ _).drew
      exact ⟨rfl, .slice a3 n c3, _, cF.keep bd, dF.keep bd, xF.keep bd, F2.out.keep sF, zF.drew⟩
end Go.Proofs.Ytpifemahakbegaa
