/- Layer 12: a ring's things as a list (the law's own loop over All). -/
import Derived.Test.YtgjghnbhpnflfaaRnIter
import Derived.Maps.AppendAt
namespace Go.Proofs.Ytgjghnbhpnflfaa
set_option linter.unusedVariables false
set_option linter.unusedSimpArgs false
open Go.RowKit Go.Shelf
attribute [local go_sem] Oper.semAt_some

namespace Rn
/-- Another box stands where a row of the call's own grows, and one box is written. -/
theorem boxed_other {W w1 : World} {B B2 base k : Nat} {t e : TypeId} {u v y : Value} {xs : List Value} {o : Obj} (h : Boxed W B t u) (hte : t ≠ e) (hr : W.ownsRow base e 1 v k xs) (hg : (W.alloc o).grownBy w1 v.ownBlock) (hne : ¬ B = B2) : Boxed (w1.setCell ⟨B2, 0, none⟩ y) B t u := by
  have h1 : Boxed w1 B t u := (h.alloc o).kept hg (h.not_row hte hr)
  show (w1.setCell ⟨B2, 0, none⟩ y).heap[B]? = _
  rw [Below.heap_setCell _ _ _ _ (show B ≠ B2 from hne)]
  exact h1
theorem boxed_set {W : World} {B B2 : Nat} {t : TypeId} {u y : Value} (h : Boxed W B t u) (hne : ¬ B = B2) : Boxed (W.setCell ⟨B2, 0, none⟩ y) B t u := by
  show (W.setCell ⟨B2, 0, none⟩ y).heap[B]? = _
  rw [Below.heap_setCell _ _ _ _ (show B ≠ B2 from hne)]
  exact h
theorem boxed_ownFrom {β : Type} (B0 B : Nat) (t : TypeId) (v : Value) : OwnFrom (β := β) B0 (fun _ W => Boxed W B t v) := fun s A A' row hs hg hr =>
  hs.kept hg fun e => by obtain ⟨_, o, q1, q2⟩ := hr _ e.symm; rw [show A.heap[B]? = _ from hs] at q1; cases q1; cases q2
set_option maxRecDepth 100000 in
set_option maxHeartbeats 2000000 in
theorem list_any (g r n f : Nat) (l : List Int) (w : World) (h : RingAt w g r n f l) :
    Calls Try.prog 13 #[.pointer (some ⟨g, 0, none⟩)] w fun e w' => ∃ v, e = .returned v ∧ w'.ownsRow w.heap.size 3 1 v l.length (l.map (Value.int .i64)) ∧ Below w.heap.size w w' := by
  obtain ⟨i0, hi, hz0, hz1, hz2⟩ := info_parts Try.infoIntR
  refine (callsIn_wide (n := 6)).1 ?_
  refine callsIn_of_wp_marks Try.func13 rfl trivial ?_ rfl
  simp only [Try.ntmps13, List.size_toArray, List.length_cons, List.length_nil, Nat.reduceAdd, Nat.reduceSub, Array.replicate_succ, Array.replicate_zero, List.push_toArray, List.append_toArray, List.nil_append, List.cons_append]
  gi_wp2_with (refine ⟨trivial, ?_⟩; gi_at_call 16; refine (callsIn_wide.2 (all_any g _)).mono ?_; rintro e w' ⟨rfl, rfl⟩)
  obtain ⟨n0, n1, n2⟩ := h.nums
  have HR : Hid (RingAt w g r n f l) := h
  have glt := h.lt
  clear h
  obtain ⟨W0, hW0⟩ : ∃ W0, ((w.alloc (.cells #[.slice none 0 0] 28)).alloc (.cells #[.slice none 0 0] 28)).alloc (.cells #[.pointer (some ⟨g, 0, none⟩)] 24) = W0 := ⟨_, rfl⟩
  have hsz : W0.heap.size = w.heap.size + 3 := by rw [← hW0]; simp
  have hB0 : Below w.heap.size w W0 := by rw [← hW0]; exact (((Below.refl _ w).alloc (Nat.le_refl _) _).alloc (by simp) _).alloc (by simp; omega) _
  have bR : Boxed W0 w.heap.size 28 (.slice none 0 0) := by rw [← hW0]; exact ((Boxed.new w _ _).alloc _).alloc _
  have bO : Boxed W0 (w.heap.size + 1) 28 (.slice none 0 0) := by
    have := (Boxed.new (w.alloc (.cells #[.slice none 0 0] 28)) 28 (.slice none 0 0)).alloc (.cells #[.pointer (some ⟨g, 0, none⟩)] 24)
    rw [World.size_alloc, hW0] at this
    exact this
  have bP : Boxed W0 (w.heap.size + 1 + 1) 24 (.pointer (some ⟨g, 0, none⟩)) := by
    have := Boxed.new ((w.alloc (.cells #[.slice none 0 0] 28)).alloc (.cells #[.slice none 0 0] 28)) 24 (.pointer (some ⟨g, 0, none⟩))
    rw [World.size_alloc, World.size_alloc, hW0] at this
    exact this
  rw [hW0]
  clear hW0
  refine range_at (m := 6) (by omega) (gf := 22) (lb := #[.pointer (some ⟨w.heap.size + 1 + 1, 0, none⟩)]) rfl (enters_of Try.func22 (by kernel_rfl) rfl)
    (all_stops 5 (by omega) (w.heap.size + 1 + 1) g r n f l W0 (by omega) bP.cell (HR.out.keep hB0)) (fun h k => h.trans k) (kp_put (by omega) (by omega) (by omega)) (Below.refl _ _) (fun _ => rfl)
    (fun k W => (∃ v, Boxed W (w.heap.size + 1) 28 v ∧ W.ownsRow w.heap.size 3 1 v k ((l.take k).map (Value.int .i64)) ∧ True) ∧ Boxed W w.heap.size 28 (.slice none 0 0) ∧ Boxed W (w.heap.size + 1 + 1) 24 (.pointer (some ⟨g, 0, none⟩)) ∧ Below w.heap.size w W)
    (fun _ _ _ => False)
    (OwnFrom.and (Own.from (holdsRow_own w.heap.size (w.heap.size + 1) 28 3 1 (fun k => k) (fun k => (l.take k).map (Value.int .i64)) (fun _ _ => True)) _) (OwnFrom.and (boxed_ownFrom _ _ _ _) (OwnFrom.and (boxed_ownFrom _ _ _ _) (ownFrom_below (Nat.le_refl _) (by omega)))))
    (fun _ _ _ _ _ hs _ _ => hs)
    ⟨⟨_, bO, World.ownsRow_nil _ _ _ _, trivial⟩, bR, bP, hB0⟩
    (fun k => { tmps := #[.pointer (some ⟨g, 0, none⟩), undef, .pointer (some ⟨w.heap.size, 0, none⟩), .pointer (some ⟨w.heap.size + 1, 0, none⟩), .int .i64 k, .int .i64 (Ls.nth l k), .pointer (some ⟨g, 0, none⟩), .func (.func 22) #[] #[.pointer (some ⟨w.heap.size + 1 + 1, 0, none⟩)], .int .i64 k, .int .i64 (Ls.nth l k), undef, undef, undef, undef, undef, undef, undef, undef, undef, undef], defers := [] }) ?assign ?body ?done ?stop
  case assign =>
    intro lp k W K hK
    gi_wp2
    exact hK
  case body =>
    rintro lp k W hk ⟨⟨v, hv, hrow, _⟩, hres, hpp, hB⟩
    obtain ⟨av, cv, rfl⟩ := own_slice hrow
    have hc := hv.cell
    obtain ⟨x, ex⟩ : ∃ x, Ls.nth l k = x := ⟨_, rfl⟩
    have EX : Hid (Ls.nth l k = x) := ex
    rw [ex]
    clear ex
    gi_wp2_with (gi_at_builtin; refine wpListIn_append_own _ rfl _ _ 28 rfl w.heap.size 3 i0 (.int .i64 0) 1 8 Try.underlying28 hi hz0 hz1 hz2 rfl (by decide) _ _ _ rfl (hrow.alloc _) ⟨W.heap.size, 0, none⟩ 1 1 [.int .i64 x] rfl rfl (cell_one_new _ _ _) (by simp [Value.oneCell']) (by unfold maxLen; omega) (by omega) (by have := hB.size; simp; omega) ?_; intro v' w1 hown' hgrow _; obtain ⟨g', cap', rfl⟩ := ownsRow_succ hown'; obtain ⟨hv1, hv2, hr2, hk2, hb2⟩ := hv.appended (by decide) hrow hB.size (Nat.le_succ _) hown' hgrow; have hc1 := hv1.cell; have hf1 := hv1.frozen; have hres2 := boxed_other (y := .slice (some ⟨g', 0, none⟩) (k + 1) cap') hres (by decide) hrow hgrow (show ¬ w.heap.size = w.heap.size + 1 by omega); have hpp2 := boxed_other (y := .slice (some ⟨g', 0, none⟩) (k + 1) cap') hpp (by decide) hrow hgrow (show ¬ w.heap.size + 1 + 1 = w.heap.size + 1 by omega))
    refine ⟨hk2.from _, .inl ⟨rfl, ⟨hpp2.trans hpp.symm, hb2.block _ glt.1, hb2.block _ glt.2⟩, ⟨_, hv2, ?_, trivial⟩, hres2, hpp2, hB.trans hb2⟩⟩
    have e : l.take (k + 1) = l.take k ++ [x] := by
      rw [List.take_succ_eq_append_getElem hk]
      congr 1
      rw [← EX.out]
      simp [Ls.nth, hk]
    rw [e, List.map_append]
    exact hr2
  case done =>
    rintro D W hD ⟨⟨v, hv, hrow, _⟩, hres, hpp, hB⟩ hK
    obtain ⟨av, cv, rfl⟩ := own_slice hrow
    have hc := hv.cell
    have hc2 := hres.cell
    have hf2 := hres.frozen
    gi_wp2
    have hK' := (KeepsOthers.setCell W ⟨w.heap.size, 0, none⟩ (.slice av l.length cv)).same D _ hK rfl
    refine ⟨by simp, .inl ⟨_, _, rfl, run_takeDeferred hK', ?_⟩⟩
    have hc5 := cell_kept (World.cell?_setCell_same' W ⟨w.heap.size, 0, none⟩ (.slice av l.length cv) (by rw [hc2]; rfl)) (grownBy_putObj' _ D (.deferred none)) (fun r e => by cases e; exact ⟨_, hK', rfl⟩)
    have hr3 : (W.setCell ⟨w.heap.size, 0, none⟩ (.slice av l.length cv)).ownsRow w.heap.size 3 1 (.slice av l.length cv) l.length ((l.take l.length).map (Value.int .i64)) := own_at hrow fun q e => Below.heap_setCell _ _ _ _ (show q ≠ w.heap.size from fun e2 => hres.not_row (by decide) hrow (by rw [← e2]; exact e.symm))
    rw [List.take_length] at hr3
    refine ⟨.slice av l.length cv, ?_, _, rfl, ownsRow_putObj hr3 _ hK' rfl, (hB.setCell (p := ⟨w.heap.size, 0, none⟩) (Nat.le_refl _) _).trans (belowK_b (w := w) (Nat.le_refl _) _ D _ _ (by omega) hK' rfl rfl)⟩
    simp [results, Try.f13, go_sem, hc5]
  case stop =>
    rintro D c k W _ _ h _
    exact h.elim
end Rn
end Go.Proofs.Ytgjghnbhpnflfaa
