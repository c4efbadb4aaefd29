/- Package ring (layer 12): Copy, Shift. -/
import Derived.Test.YtgjghnbhpnflfaaRnList
import Derived.Deep.QuietTactic
import Derived.BigQuiet
namespace Go.Proofs.Ytgjghnbhpnflfaa
set_option linter.unusedVariables false
set_option linter.unusedSimpArgs false
open Go.RowKit Go.Shelf
attribute [local go_sem] Oper.semAt_some

namespace Rn
theorem ring_ownFrom {β : Type} (B g r n f : Nat) (L : β → List Int) : OwnFrom (β := β) B (fun s W => RingAt W g r n f (L s)) := fun s A A' row hs hg hr => by
  obtain ⟨F, h1, h2, h3⟩ := hs
  have far : ∀ q t, Ty A q t → A'.heap[q]? = A.heap[q]? := fun q t ht => hg.block q ht.lt fun e => by
    obtain ⟨_, o, q1, q2⟩ := hr q e.symm
    obtain ⟨cs, fz, q3⟩ := ht
    rw [q3] at q1
    cases q1
    cases q2
  exact ⟨F, h1.of_block (far g _ (ty_row h1)), h2.of_block (far r _ (ty_row h2)), h3⟩
theorem But.keeps {g r n f : Nat} {l : List Int} {w w' : World} (h : But g r w w') (hr : RingAt w g r n f l) : KeepsOthers w w' :=
  ⟨h.size, fun k o hk ho => by
    obtain ⟨F, h1, h2, _⟩ := hr
    have ne : ∀ q t, Ty w q t → ¬ k = q := fun q t ht e => by
      obtain ⟨cs, fz, q3⟩ := ht
      rw [e, q3] at hk
      cases hk
      cases ho
    rw [h.2 k (Array.getElem?_eq_some_iff.1 hk).1 (ne g _ (ty_row h1)) (ne r _ (ty_row h2))]
    exact hk⟩
theorem ty_box {W : World} {B : Nat} {t : TypeId} {v : Value} (h : Boxed W B t v) : Ty W B t := ⟨_, _, h⟩

set_option maxRecDepth 100000 in
set_option maxHeartbeats 2000000 in
theorem copy_any (g r n f : Nat) (l : List Int) (w : World) (h : RingAt w g r n f l) :
    Calls Try.prog 17 #[.pointer (some ⟨g, 0, none⟩)] w fun e w' => ∃ o q, e = .returned (.pointer (some ⟨o, 0, none⟩)) ∧ RingAt w' o q n 0 l ∧ w.heap.size ≤ o ∧ w.heap.size ≤ q ∧ Below w.heap.size w w' := by
  obtain ⟨n0, n1, n2⟩ := h.nums
  have hmk := run_make_row' (P := Try.prog) 28 3 (.int .i64 0) 8 Try.underlying28 Try.infoIntR rfl .i64 .i64 n (by omega) (by omega)
  have HR : Hid (RingAt w g r n f l) := h
  have glt := h.lt
  clear h
  refine (callsIn_wide (n := 6)).1 ?_
  refine callsIn_of_wp_marks Try.func17 rfl trivial ?_ rfl
  simp only [Try.ntmps17, List.size_toArray, List.length_cons, List.length_nil, Nat.reduceAdd, Nat.reduceSub, Array.replicate_succ, Array.replicate_zero, List.push_toArray, List.append_toArray, List.nil_append, List.cons_append]
  refine wpIn_wide.2 ?_
  go_wp2_with (first
    | (go_at_call 11; refine (size_any g r n f l.length _ HR.out.hd).mono ?_; rintro e w' ⟨rfl, hww⟩; cases hww.symm; clear hww)
    | (go_at_call 16; refine (all_any g _).mono ?_; rintro e w' ⟨rfl, hww⟩; cases hww.symm; clear hww))
  clear hmk
  obtain ⟨W0, hW0⟩ : ∃ W0, (((w.alloc (.cells (madeCells #[.int .i64 0] n) 3)).alloc (.cells #[.slice (some ⟨w.heap.size, 0, none⟩) n n, .int .i64 0, .int .i64 0] 52)).alloc (.cells #[.pointer (some ⟨w.heap.size + 1, 0, none⟩)] 24)).alloc (.cells #[.pointer (some ⟨g, 0, none⟩)] 24) = W0 := ⟨_, rfl⟩
  have hsz : W0.heap.size = w.heap.size + 4 := by rw [← hW0]; simp
  have hB0 : Below w.heap.size w W0 := by rw [← hW0]; exact ((((Below.refl _ w).alloc (Nat.le_refl _) _).alloc (by simp) _).alloc (by simp; omega) _).alloc (by simp; omega) _
  have bO : Boxed W0 (w.heap.size + 1 + 1) 24 (.pointer (some ⟨w.heap.size + 1, 0, none⟩)) := by
    have := (Boxed.new ((w.alloc (.cells (madeCells #[.int .i64 0] n) 3)).alloc (.cells #[.slice (some ⟨w.heap.size, 0, none⟩) n n, .int .i64 0, .int .i64 0] 52)) 24 (.pointer (some ⟨w.heap.size + 1, 0, none⟩))).alloc (.cells #[.pointer (some ⟨g, 0, none⟩)] 24)
    rw [World.size_alloc, World.size_alloc, hW0] at this
    exact this
  have bP : Boxed W0 (w.heap.size + 1 + 1 + 1) 24 (.pointer (some ⟨g, 0, none⟩)) := by
    have := Boxed.new (((w.alloc (.cells (madeCells #[.int .i64 0] n) 3)).alloc (.cells #[.slice (some ⟨w.heap.size, 0, none⟩) n n, .int .i64 0, .int .i64 0] 52)).alloc (.cells #[.pointer (some ⟨w.heap.size + 1, 0, none⟩)] 24)) 24 (.pointer (some ⟨g, 0, none⟩))
    rw [World.size_alloc, World.size_alloc, World.size_alloc, hW0] at this
    exact this
  have rO : RingAt W0 (w.heap.size + 1) w.heap.size n 0 [] := by
    have := World.rowIs_alloc (w.alloc (.cells (madeCells #[.int .i64 0] n) 3)) #[.slice (some ⟨w.heap.size, 0, none⟩) n n, .int .i64 0, .int .i64 0] 52 (rc w.heap.size n 0 0) (by
      intro i hi
      match i, hi with
      | 0, _ => rfl
      | 1, _ => rfl
      | 2, _ => rfl)
    rw [World.size_alloc] at this
    refine ⟨fun _ => .int .i64 0, ?_, ?_, Nat.zero_le _, n1, by omega, fun i hi => absurd hi (Nat.not_lt_zero _)⟩
    · rw [← hW0]; exact (this.alloc _).alloc _
    · rw [← hW0]; exact (((World.rowIs_made w _ n _).alloc _).alloc _).alloc _
  rw [hW0]
  clear hW0
  refine (wpIn_wide (n := 6)).1 ?_
  refine range_at (m := 6) (by omega) (gf := 22) (lb := #[.pointer (some ⟨w.heap.size + 1 + 1 + 1, 0, none⟩)]) rfl (enters_of Try.func22 (by kernel_rfl) rfl)
    (all_stops 5 (by omega) (w.heap.size + 1 + 1 + 1) g r n f l W0 (by omega) bP.cell (HR.out.keep hB0)) (fun h k => h.trans k) (kp_put (by omega) (by omega) (by omega)) (Below.refl _ _) (fun _ => rfl)
    (fun k W => RingAt W (w.heap.size + 1) w.heap.size n 0 (l.take k) ∧ Boxed W (w.heap.size + 1 + 1) 24 (.pointer (some ⟨w.heap.size + 1, 0, none⟩)) ∧ Boxed W (w.heap.size + 1 + 1 + 1) 24 (.pointer (some ⟨g, 0, none⟩)) ∧ Below w.heap.size w W)
    (fun _ _ _ => False)
    (OwnFrom.and (ring_ownFrom _ _ _ _ _ (fun k => l.take k)) (OwnFrom.and (boxed_ownFrom _ _ _ _) (OwnFrom.and (boxed_ownFrom _ _ _ _) (ownFrom_below (Nat.le_refl _) (by omega)))))
    (fun _ _ _ _ _ hs _ _ => hs)
    ⟨rO, bO, bP, hB0⟩
    (fun k => { tmps := #[.pointer (some ⟨g, 0, none⟩), undef, .pointer none, .pointer (some ⟨w.heap.size + 1 + 1, 0, none⟩), undef, .int .i64 (Ls.nth l k), .pointer (some ⟨g, 0, none⟩), .int .i64 n, .slice (some ⟨w.heap.size, 0, none⟩) n n, .agg #[.slice (some ⟨w.heap.size, 0, none⟩) n n, .int .i64 0, .int .i64 0], .pointer (some ⟨w.heap.size + 1, 0, none⟩), .pointer (some ⟨g, 0, none⟩), .func (.func 22) #[] #[.pointer (some ⟨w.heap.size + 1 + 1 + 1, 0, none⟩)], .int .i64 k, .int .i64 (Ls.nth l k), undef, undef, undef, undef], defers := [] }) ?assign ?body ?done ?stop
  case assign =>
    intro lp k W K hK
    gi_wp2
    exact hK
  case body =>
    rintro lp k W hk ⟨hr, hv, hpp, hB⟩
    have hc := hv.cell
    have RO : Hid (RingAt W (w.heap.size + 1) w.heap.size n 0 (l.take k)) := hr
    have hlk : (l.take k).length < n := by rw [List.length_take]; omega
    obtain ⟨x, ex⟩ : ∃ x, Ls.nth l k = x := ⟨_, rfl⟩
    have EX : Hid (Ls.nth l k = x) := ex
    rw [ex]
    clear ex hr
    gi_wp2_with (refine ⟨trivial, ?_⟩; gi_at_call 14; refine (CallsIn.inRound lp (callsIn_wide.2 (push_ok (w.heap.size + 1) w.heap.size n 0 x (l.take k) _ RO.out hlk))).mono ?_; rintro e W2 ⟨rfl, hr2, hb2⟩)
    have e : l.take (k + 1) = l.take k ++ [x] := by
      rw [List.take_succ_eq_append_getElem hk]
      congr 1
      rw [← EX.out]
      simp [Ls.nth, hk]
    have far : ∀ q v, Boxed W q 24 v → Boxed W2 q 24 v := fun q v hq => by
      obtain ⟨F, h1, h2, _⟩ := RO.out
      exact (hb2.2 q (ty_box hq).lt ((ty_box hq).ne (ty_row h1) (by decide)) ((ty_box hq).ne (ty_row h2) (by decide))).trans hq
    have bl : Below w.heap.size W W2 := hb2.below (by omega) (Nat.le_refl _) hB.size
    exact ⟨(hb2.keeps RO.out).from _, .inl ⟨rfl, ⟨(far _ _ hpp).trans hpp.symm, bl.block _ glt.1, bl.block _ glt.2⟩, by rw [e]; exact hr2, far _ _ hv, far _ _ hpp, hB.trans bl⟩⟩
  case done =>
    rintro D W hD ⟨hr, hv, hpp, hB⟩ hK
    have hc := hv.cell
    go_wp2
    refine ⟨by simp, .inl ⟨_, _, rfl, run_takeDeferred hK, ?_⟩⟩
    have hq := belowK_b (w := w) (Nat.le_refl _) W D _ (.deferred none) (by omega) hK rfl rfl
    rw [List.take_length] at hr
    exact ⟨_, results_tmp rfl _ _ _, w.heap.size + 1, w.heap.size, rfl, hr.of_block (World.putObj_heap_other (by omega)) (World.putObj_heap_other (by omega)), by omega, Nat.le_refl _, hB.trans hq⟩
  case stop =>
    rintro D c k W _ _ h _
    exact h.elim
end Rn
end Go.Proofs.Ytgjghnbhpnflfaa
