/- Layer 13: CcNew, CcShape. -/
import Derived.Test.YtnchnlgnnlgjcaaGreatCn20
import Derived.Test.YtnchnlgnnlgjcaaGreatCn21
namespace Go.Proofs.YtnchnlgnnlgjcaaGreat
set_option linter.unusedVariables false
set_option linter.unusedSimpArgs false
open Go.RowKit
namespace Cc
theorem slots_c (C c g H D G W N : Nat) (ls : List (Int × Int)) (M : List Int) (L : Nat → List Int) (cnt : List Int) (tk : Nat → List Tok) (q : Nat → Nat) (col : Nat → Nat) (w : World) (h : CaAt w col c g C H D G W ls M L cnt tk q) (hm : ls.length * H ≤ 16) (hN : Bk.len L (ls.length * H) = N) (hl : N ≤ 100000) :
    Calls Tryz.prog 27 #[.pointer (some ⟨C, 0, none⟩)] w fun e w' => ∃ a c', e = .returned (.slice a N c') ∧ Lst .i64 w' a (Bk.flat L (ls.length * H)) ∧ Below w.heap.size w w' := by
  obtain ⟨al, cl, T, pb, pc, ct, cc, rg, rs, F, ⟨hC, zC⟩, -, ⟨hT, zT⟩, -⟩ := h.in
  have x6 : w.cell? ⟨C, 6, none⟩ = some (.pointer (some ⟨T, 0, none⟩)) := hC.cell (show 6 < 9 by decide)
  have HT := Ca.hid hT
  have HN := Ca.hid hN
  clear hT hC h hN
  go_enter Tryz.func27, Tryz.ntmps27
  go_wp2_with (go_at_call 72; refine (slots_any' g T (ls.length * H) N L _ _ HT.out (by omega) HN.out hl).mono ?_; rintro e w1 ⟨a, c', rfl, -, hA, hb⟩; have A1 := Ca.hid hA; have B1 := Ca.hid hb; clear hA hb)
  go_ret
  exact ⟨a, c', rfl, A1.out, B1.out⟩
set_option maxRecDepth 100000 in
/-- The plan's layers cloned. -/
theorem cloneBits_z (a : Option Addr) (c n : Nat) (ls : List (Int × Int)) (w : World) (h : Tn.Tr.Ps w a ls) (h0 : 0 < ls.length) (hl : ls.length ≤ 1000) (hn : ls.length = n) :
    Calls Tryz.prog 94 #[.slice a n c] w fun e w' => ∃ a' c', e = .returned (.slice (some ⟨a', 0, none⟩) n c') ∧ w.heap.size ≤ a' ∧ Ty w' a' 77 ∧ Tn.Tr.Ps w' (some ⟨a', 0, none⟩) ls ∧ Below w.heap.size w w' := by
  subst hn
  have hS := ps_slq (Q := fun _ => True) h (fun _ _ => trivial)
  obtain ⟨b, o, rfl, -⟩ := hS.get h0
  have HA : Hid (SlQ (fun _ => True) 2 ePair w (some ⟨b, o, none⟩) ls) := hS
  clear h hS
  have hq : (binOp .eql 22 (.slice (some ⟨b, o, none⟩) ls.length c) (.slice none 0 0)).run Tryz.prog w = .ok (.bool false) w := slice_nil w _ _ (some ⟨b, o, none⟩) _ _ Tryz.underlying22
  go_enter Tryz.func94, Tryz.ntmps94
  go_wp2_with (at_builtin; refine wpList_append_slq carry_pair full_pair rfl _ _ 22 rfl w.heap.size 77 _ 16 Tryz.underlying22 infoBits (by rfl) (by decide) _ 0 [] (by rfl) (World.ownsRow_made w #[] 0 (Nat.le_refl _) (by decide) rfl) (some ⟨b, o, none⟩) ls c (by rfl) (HA.out.keep carry_pair (box_below _ _)) (fun e => nomatch e) (by unfold maxLen; omega) (by omega) (by simp) ?_; intro v1 u1 news hnl hne ho1 hg1; simp only [Nat.zero_add, List.nil_append] at ho1; obtain ⟨va, vc, rfl⟩ := Ca.own_slice ho1; have O1 : Hid (u1.ownsRow w.heap.size 77 2 (.slice va ls.length vc) ls.length news) := ho1; have NE := Ca.hid hne; have B1 : Hid (Below w.heap.size w u1) := (box_below _ _).grown hg1 (by simp) (by intro k hk; cases hk; exact Nat.le_refl _); clear ho1 hg1 hne)
  go_ret
  obtain ⟨g, cp, e, _⟩ := O1.out.form (by omega)
  cases e
  obtain ⟨a', c', e, hs, _⟩ := slq_of_own (E := ePair) (Q := fun _ => True) (l := ls) O1.out rfl (fun _ _ => trivial) (fun i hi cc hcc => NE.out i hi cc hcc)
  cases e
  have hlt := O1.out.lt g rfl
  exact ⟨g, _, rfl, hlt.1, ty_own O1.out rfl, slq_ps hs, B1.out⟩
theorem shape_box {w : World} {H D G W : Int} {v : Value} : (w.alloc (.cells #[.int .i64 H, .int .i64 D, .int .i64 G, .int .i64 W, v] 26)).rowIs w.heap.size 26 5 (fun i => if i = 0 then .int .i64 H else if i = 1 then .int .i64 D else if i = 2 then .int .i64 G else if i = 3 then .int .i64 W else v) :=
  World.rowIs_alloc w _ _ _ (fun i hi => by match i, hi with | 0, _ => rfl | 1, _ => rfl | 2, _ => rfl | 3, _ => rfl | 4, _ => rfl)
set_option maxHeartbeats 1600000 in
/-- 's.copied()'. -/
theorem copied_c (H D G W : Int) (al : Option Addr) (cl n : Nat) (ls : List (Int × Int)) (w : World) (h : Tn.Tr.Ps w al ls) (h0 : 0 < ls.length) (hl : ls.length ≤ 1000) (hn : ls.length = n) :
    Calls Tryz.prog 52 #[.agg #[.int .i64 H, .int .i64 D, .int .i64 G, .int .i64 W, .slice al n cl]] w fun e w' => ∃ a' c', e = .returned (.agg #[.int .i64 H, .int .i64 D, .int .i64 G, .int .i64 W, .slice (some ⟨a', 0, none⟩) n c']) ∧ w.heap.size ≤ a' ∧ Ty w' a' 77 ∧ Tn.Tr.Ps w' (some ⟨a', 0, none⟩) ls ∧ Below w.heap.size w w' := by
  have HP := Ca.hid h
  have HN := Ca.hid hn
  clear h hn
  go_enter Tryz.func52, Tryz.ntmps52
  go_wp2_with fail
  obtain ⟨u, hu⟩ : ∃ u, (w.alloc (.cells #[.int .i64 H, .int .i64 D, .int .i64 G, .int .i64 W, .slice al n cl] 26)).alloc (.cells #[.int .i64 0, .int .i64 0, .int .i64 0, .int .i64 0, .slice none 0 0] 26) = u := ⟨_, rfl⟩
  have U : Hid (Below w.heap.size w u) := by rw [← hu]; exact two_boxes _ _ _
  have su : Hid (u.heap.size = w.heap.size + 2) := by show _ = _; rw [← hu]; simp
  have r0 : Hid (u.rowIs w.heap.size 26 5 (fun i => if i = 0 then .int .i64 H else if i = 1 then .int .i64 D else if i = 2 then .int .i64 G else if i = 3 then .int .i64 W else .slice al n cl)) := by rw [← hu]; exact shape_box.alloc _
  have r1 : Hid (u.rowIs (w.heap.size + 1) 26 5 (fun i => if i = 0 then .int .i64 0 else if i = 1 then .int .i64 0 else if i = 2 then .int .i64 0 else if i = 3 then .int .i64 0 else .slice none 0 0)) := by
    have := shape_box (w := w.alloc (.cells #[.int .i64 H, .int .i64 D, .int .i64 G, .int .i64 W, .slice al n cl] 26)) (H := 0) (D := 0) (G := 0) (W := 0) (v := .slice none 0 0)
    rw [hu, World.size_alloc] at this
    exact this
  rw [hu]
  clear hu
  refine (cloneBits_z al cl n ls u (HP.out.keep U.out) h0 hl HN.out).mono ?_
  rintro e v ⟨a', c', rfl, g1, g2, g3, hb⟩
  have RS := Ca.hid (And.intro g1 (And.intro g2 (And.intro g3 hb)))
  have s0 := r0.out.of_block (hb.block _ r0.out.lt)
  have s1 := r1.out.of_block (hb.block _ r1.out.lt)
  have S0 := Ca.hid s0
  have S1 := Ca.hid s1
  have x0 : v.cell? ⟨w.heap.size, 0, none⟩ = some (.int .i64 H) := s0.cell (show 0 < 5 by decide)
  have x1 : v.cell? ⟨w.heap.size, 1, none⟩ = some (.int .i64 D) := s0.cell (show 1 < 5 by decide)
  have x2 : v.cell? ⟨w.heap.size, 2, none⟩ = some (.int .i64 G) := s0.cell (show 2 < 5 by decide)
  have x3 : v.cell? ⟨w.heap.size, 3, none⟩ = some (.int .i64 W) := s0.cell (show 3 < 5 by decide)
  have x4 : v.cell? ⟨w.heap.size, 4, none⟩ = some (.slice al n cl) := s0.cell (show 4 < 5 by decide)
  have z4 := s0.frozen 4
  have y0 : v.cell? ⟨w.heap.size + 1, 0, none⟩ = some (.int .i64 0) := s1.cell (show 0 < 5 by decide)
  have y1 : v.cell? ⟨w.heap.size + 1, 1, none⟩ = some (.int .i64 0) := s1.cell (show 1 < 5 by decide)
  have y2 : v.cell? ⟨w.heap.size + 1, 2, none⟩ = some (.int .i64 0) := s1.cell (show 2 < 5 by decide)
  have y3 : v.cell? ⟨w.heap.size + 1, 3, none⟩ = some (.int .i64 0) := s1.cell (show 3 < 5 by decide)
  have y4 : v.cell? ⟨w.heap.size + 1, 4, none⟩ = some (.slice none 0 0) := s1.cell (show 4 < 5 by decide)
  have f0 := s1.frozen 0
  have f1 := s1.frozen 1
  have f2 := s1.frozen 2
  have f3 := s1.frozen 3
  have f4 := s1.frozen 4
  clear g1 g2 g3 hb s0 s1
  go_wp2
  have nb : ∀ (y : World) (b o : Nat) (vv : Value), ¬ a' = b → Tn.Tr.Ps y (some ⟨a', 0, none⟩) ls → Tn.Tr.Ps (y.setCell ⟨b, o, none⟩ vv) (some ⟨a', 0, none⟩) ls := fun y b o vv hn hps i hi => by
    obtain ⟨b1, o1, e, q1, q2⟩ := hps i hi
    cases e
    refine ⟨a', 0, rfl, ?_, ?_⟩
    · rw [World.cell?_of_block (a := ⟨a', 0 + i * 2, none⟩) (Below.heap_setCell _ _ _ _ (show a' ≠ b from hn))]; exact q1
    · rw [World.cell?_of_block (a := ⟨a', 0 + i * 2 + 1, none⟩) (Below.heap_setCell _ _ _ _ (show a' ≠ b from hn))]; exact q2
  have n0 : ¬ a' = w.heap.size := by have := RS.out.1; have := su.out; omega
  have n1 : ¬ a' = w.heap.size + 1 := by have := RS.out.1; have := su.out; omega
  have BV : Below w.heap.size w v := U.out.trans (RS.out.2.2.2.mono U.out.size)
  refine bodyPost_ret (v := .agg #[.int .i64 H, .int .i64 D, .int .i64 G, .int .i64 W, .slice (some ⟨a', 0, none⟩) n c']) (by simp [results, Tryz.results52, go_sem, y0, y1, y2, y3, y4]) rfl ⟨a', c', rfl, by have := RS.out.1; have := su.out; omega, ?_, ?_, ?_⟩
  · exact RS.out.2.1.of_block ((Below.heap_setCell _ _ _ _ (show a' ≠ w.heap.size + 1 from n1)).trans ((Below.heap_setCell _ _ _ _ (show a' ≠ w.heap.size + 1 from n1)).trans ((Below.heap_setCell _ _ _ _ (show a' ≠ w.heap.size + 1 from n1)).trans ((Below.heap_setCell _ _ _ _ (show a' ≠ w.heap.size + 1 from n1)).trans ((Below.heap_setCell _ _ _ _ (show a' ≠ w.heap.size + 1 from n1)).trans (Below.heap_setCell _ _ _ _ (show a' ≠ w.heap.size from n0)))))))
  · exact nb _ _ _ _ n1 (nb _ _ _ _ n1 (nb _ _ _ _ n1 (nb _ _ _ _ n1 (nb _ _ _ _ n1 (nb _ _ _ _ n0 RS.out.2.2.1)))))
  · exact (((((BV.setCell (by simp) _).setCell (by simp) _).setCell (by simp) _).setCell (by simp) _).setCell (by simp) _).setCell (by simp) _
end Cc
end Go.Proofs.YtnchnlgnnlgjcaaGreat
namespace Go.Proofs.YtnchnlgnnlgjcaaGreat
set_option linter.unusedVariables false
set_option linter.unusedSimpArgs false
open Go.RowKit
namespace Cc
set_option maxHeartbeats 800000 in
/-- 'Right(s)'. -/
theorem right_c (H D G W : Int) (al : Option Addr) (cl : Nat) (ls : List (Int × Int)) (q : Bool) (w : World) (h : Tn.Tr.Ps w al ls) (hl : ls.length ≤ maxLen) (hq : decide (1 ≤ H ∧ H ≤ 4 ∧ 1 ≤ D ∧ D ≤ 16 ∧ Tn.Tr.right G W ls = 0) = q) :
    Calls Tryz.prog 13 #[.agg #[.int .i64 H, .int .i64 D, .int .i64 G, .int .i64 W, .slice al ls.length cl]] w fun e w' => e = .returned (.bool q) ∧ Below w.heap.size w w' := by
  have HP := Ca.hid h
  have B0 : Hid (Below w.heap.size w (w.alloc (.cells #[.int .i64 H, .int .i64 D, .int .i64 G, .int .i64 W, .slice al ls.length cl] 26))) := Rt.box_below _ _
  clear h
  by_cases h1 : 1 ≤ H ∧ H ≤ 4
  · have w1 := Ca.hid (show (decide (1 ≤ H) && decide (H ≤ 4)) = true by simp [h1.1, h1.2])
    by_cases h2 : 1 ≤ D ∧ D ≤ 16
    · have w2 := Ca.hid (show (decide (1 ≤ D) && decide (D ≤ 16)) = true by simp [h2.1, h2.2])
      obtain ⟨e, he⟩ : ∃ e, Tn.Tr.right G W ls = e := ⟨_, rfl⟩
      have HE := Ca.hid he
      rw [he] at hq
      have d : (e == 0) = q := by rw [← hq, Bool.eq_iff_iff]; simp [h1.1, h1.2, h2.1, h2.2]
      clear hq he h1 h2
      go_enter Tryz.func13, Tryz.ntmps13
      go_wp2_with (first
        | (go_at_call_of 37 (H); (with_reducible refine (within_c H 1 4 true w1.out _).mono ?_); rintro e' w' ⟨rfl, hww⟩; cases hww.symm; clear hww)
        | (go_at_call_of 37 (D); (with_reducible refine (within_c D 1 16 true w2.out _).mono ?_); rintro e' w' ⟨rfl, hww⟩; cases hww.symm; clear hww)
        | (go_at_call 38; refine (Tn.right_any G W al cl ls e HE.out _ (HP.out.keep B0.out) hl).mono ?_; rintro e' w2 ⟨rfl, hb⟩; have B2 := Ca.hid hb; clear hb))
      go_ret
      first | exact ⟨rfl, B0.out.trans (B2.out.mono B0.out.size)⟩ | exact ⟨ret_bool d, B0.out.trans (B2.out.mono B0.out.size)⟩
    · have w2 := Ca.hid (show (decide (1 ≤ D) && decide (D ≤ 16)) = false by rw [Bool.eq_false_iff]; intro e; simp at e; omega)
      have eq : q = false := by rw [← hq]; exact decide_eq_false (fun e => h2 ⟨e.2.2.1, e.2.2.2.1⟩)
      subst eq
      clear hq h1 h2
      go_enter Tryz.func13, Tryz.ntmps13
      go_wp2_with (first
        | (go_at_call_of 37 (H); (with_reducible refine (within_c H 1 4 true w1.out _).mono ?_); rintro e' w' ⟨rfl, hww⟩; cases hww.symm; clear hww)
        | (go_at_call_of 37 (D); (with_reducible refine (within_c D 1 16 false w2.out _).mono ?_); rintro e' w' ⟨rfl, hww⟩; cases hww.symm; clear hww))
      go_ret
      exact ⟨rfl, B0.out⟩
  · have w1 := Ca.hid (show (decide (1 ≤ H) && decide (H ≤ 4)) = false by rw [Bool.eq_false_iff]; intro e; simp at e; omega)
    have eq : q = false := by rw [← hq]; exact decide_eq_false (fun e => h1 ⟨e.1, e.2.1⟩)
    subst eq
    clear hq h1
    go_enter Tryz.func13, Tryz.ntmps13
    go_wp2_with (go_at_call_of 37 (H); (with_reducible refine (within_c H 1 4 false w1.out _).mono ?_); rintro e' w' ⟨rfl, hww⟩; cases hww.symm; clear hww)
    go_ret
    exact ⟨rfl, B0.out⟩
end Cc
end Go.Proofs.YtnchnlgnnlgjcaaGreat
