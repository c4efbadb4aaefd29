/- Layer 13: CcDue. -/
import Derived.Test.YtnchnlgnnlgjcaaGreatCn19
import Derived.Deep.RegionWith
namespace Go.Proofs.YtnchnlgnnlgjcaaGreat
set_option linter.unusedVariables false
set_option linter.unusedSimpArgs false
open Go.RowKit
namespace Cc
theorem cell_new (w : World) (n : Nat) (cs : Array Value) (t : TypeId) (i : Nat) : ((w.drewN n).alloc (.cells cs t)).cell? ⟨w.heap.size, i, none⟩ = cs[i]? :=
  cell_of_row _ _ i cs t (0, 0) (heap_alloc_new (w.drewN n) _)
/-- A box of three cells that is filled. -/
theorem box3 {w X : World} {B : Nat} {t : TypeId} {f : Nat → Value} (h : X.rowIs B t 3 f) (v0 v1 v2 : Value) (hb : Below w.heap.size w X) :
    (((X.setCell ⟨B, 0, none⟩ v0).setCell ⟨B, 1, none⟩ v1).setCell ⟨B, 2, none⟩ v2).cell? ⟨B, 0, none⟩ = some v0 ∧ (((X.setCell ⟨B, 0, none⟩ v0).setCell ⟨B, 1, none⟩ v1).setCell ⟨B, 2, none⟩ v2).cell? ⟨B, 1, none⟩ = some v1 ∧
      (((X.setCell ⟨B, 0, none⟩ v0).setCell ⟨B, 1, none⟩ v1).setCell ⟨B, 2, none⟩ v2).cell? ⟨B, 2, none⟩ = some v2 ∧ (w.heap.size ≤ B → Below w.heap.size w (((X.setCell ⟨B, 0, none⟩ v0).setCell ⟨B, 1, none⟩ v1).setCell ⟨B, 2, none⟩ v2)) := by
  have h3 := ((h.set 0 v0).set 1 v1).set 2 v2
  refine ⟨by rw [h3.cell (show 0 < 3 by decide)]; rfl, by rw [h3.cell (show 1 < 3 by decide)]; rfl, by rw [h3.cell (show 2 < 3 by decide)]; rfl, fun hB => ?_⟩
  exact ((hb.setCell (p := ⟨B, 0, none⟩) hB _).setCell (p := ⟨B, 1, none⟩) hB _).setCell (p := ⟨B, 2, none⟩) hB _
set_option maxRecDepth 100000 in
set_option maxHeartbeats 1600000 in
theorem due_c (C g H D G W : Nat) (ls : List (Int × Int)) (t k : Nat) (q : Bool) (w : World) (h : Bd w C g H D G W ls t k) (hk : k < ls.length) (hl : ls.length ≤ 4) (hG : 1 ≤ G) (hG2 : G ≤ 16) (hW : W ≤ 64) (ht : t ≤ 1000) (hq : decide (gn G W t < gn G W (t + 1)) = q) :
    Calls Tryz.prog 58 #[.pointer (some ⟨C, 0, none⟩)] w fun e w' => e = .returned (.bool q) ∧ Below w.heap.size w w' := by
  have HB : Hid (Bd w C g H D G W ls t k) := h
  obtain ⟨al, cl, T, pb, m, pc, ct, cc, -, -, -, c3, c4, c5, -, -, -, hlt, -⟩ := h.cells
  have G1 : Hid (Tn.Tr.grp G W ((t : Int) + 1) = (gn G W (t + 1) : Int)) := grp_gn (t := t + 1) (by omega)
  have G2 : Hid (Tn.Tr.grp G W (t : Int) = (gn G W t : Int)) := grp_gn (t := t) (by omega)
  obtain ⟨n1, e1⟩ : ∃ n, gn G W (t + 1) = n := ⟨_, rfl⟩
  obtain ⟨n2, e2⟩ : ∃ n, gn G W t = n := ⟨_, rfl⟩
  rw [e1] at G1
  rw [e2] at G2
  rw [e1, e2] at hq
  have DQ : Hid (decide (n2 < n1) = q) := hq
  clear h e1 e2 hq
  go_enter Tryz.func58, Tryz.ntmps58
  have ROW : Hid (∀ nq, ((w.alloc (.cells #[.int .i64 0, .int .i64 0, .slice none 0 0] 24)).drewN (1 + nq)).rowIs w.heap.size 24 3 (fun i => if i = 0 then .int .i64 0 else if i = 1 then .int .i64 0 else .slice none 0 0)) := fun nq => (World.rowIs_alloc w _ _ _ (fun i hi => by match i, hi with | 0, _ => rfl | 1, _ => rfl | 2, _ => rfl) : (w.alloc (.cells #[.int .i64 0, .int .i64 0, .slice none 0 0] 24)).rowIs w.heap.size 24 3 (fun i => if i = 0 then .int .i64 0 else if i = 1 then .int .i64 0 else .slice none 0 0))
  have KS : Hid (∀ w', Below w.heap.size w w' → (w'.cell? ⟨C, 3, none⟩ = some (.int .i64 (G : Int)) ∧ w'.cell? ⟨C, 4, none⟩ = some (.int .i64 (W : Int)) ∧ w'.cell? ⟨C, 5, none⟩ = some (.slice al ls.length cl)) ∧ Hid (Below w.heap.size w w')) := fun w' hb =>
    ⟨⟨by rw [hb.cell (p := ⟨C, 3, none⟩) hlt]; exact c3, by rw [hb.cell (p := ⟨C, 4, none⟩) hlt]; exact c4, by rw [hb.cell (p := ⟨C, 5, none⟩) hlt]; exact c5⟩, hb⟩
  clear c3 c4 c5
  go_upto_region 1 with fail
  go_cut [3, 4] from 5 to 11 (fun b tt wx => ∃ B : Nat, b = .pointer (some ⟨B, 0, none⟩) ∧ tt = .int .i64 (t : Int) ∧ wx.cell? ⟨B, 0, none⟩ = some (.int .i64 (G : Int)) ∧ wx.cell? ⟨B, 1, none⟩ = some (.int .i64 (W : Int)) ∧ wx.cell? ⟨B, 2, none⟩ = some (.slice al ls.length cl) ∧ Hid (Below w.heap.size w wx))
  case first =>
    go_region_held3 (fun w' => (w'.cell? ⟨C, 3, none⟩ = some (.int .i64 (G : Int)) ∧ w'.cell? ⟨C, 4, none⟩ = some (.int .i64 (W : Int)) ∧ w'.cell? ⟨C, 5, none⟩ = some (.slice al ls.length cl)) ∧ Hid (Below w.heap.size w w'))
      (first
        | assumption
        | exact KS.out _ ((Below.refl _ _).drew)
        | exact KS.out _ B1.out
        | exact KS.out _ (((Below.refl w.heap.size w).drew).alloc (Nat.le_refl _) _)
        | exact KS.out _ (B1.out.alloc B1.out.size _)
        | exact KS.out _ (Rt.below_drewN ((Below.refl w.heap.size w).alloc (Nat.le_refl _) _) _)
        | exact KS.out _ ((((Rt.below_drewN ((Below.refl w.heap.size w).alloc (Nat.le_refl _) _) _).setCell (Nat.le_refl _) _).setCell (Nat.le_refl _) _).setCell (Nat.le_refl _) _))
      (first
        | (go_at_call 26; (with_reducible refine (tokens_c C g H D G W ls t k w.drew (HB.out.keep (Below.refl w.heap.size w).drew) hk hl).mono ?_); rintro e w1 ⟨rfl, nq, hw1⟩; have B1 : Hid (Below w.heap.size w w1) := (by rw [hw1]; exact Rt.below_drewN ((Below.refl _ _).drew) _); clear hw1)
        | (go_at_call 26; (with_reducible refine (tokens_c C g H D G W ls t k _ (HB.out.keep ?_) hk hl).mono ?_); (first | exact ((Below.refl w.heap.size w).drew).alloc (Nat.le_refl _) _ | exact ((Below.refl w.heap.size w).alloc (Nat.le_refl _) _).drew); rintro e w' ⟨rfl, nq, rfl⟩))
    all_goals (go_wp2_with fail)
    all_goals go_meet
    case rel => first | exact ⟨w1.heap.size, rfl, rfl, by simp, by simp, by simp, B1.out.alloc B1.out.size _⟩ | exact ⟨w.heap.size, rfl, rfl, by simp, by simp, by simp, Rt.below_drewN ((Below.refl w.heap.size w).alloc (Nat.le_refl _) _) _⟩ | (have hq := box3 (w := w) (X := (w.alloc (.cells #[.int .i64 0, .int .i64 0, .slice none 0 0] 24)).drewN (1 + nq)) (B := w.heap.size) (ROW.out nq) (.int .i64 (G : Int)) (.int .i64 (W : Int)) (.slice al ls.length cl) (Rt.below_drewN ((Below.refl w.heap.size w).alloc (Nat.le_refl _) _) _); exact ⟨w.heap.size, rfl, rfl, hq.1, hq.2.1, hq.2.2.1, hq.2.2.2 (Nat.le_refl _)⟩)
    all_goals first | exact ⟨w1.heap.size, rfl, rfl, by simp, by simp, by simp, B1.out.alloc B1.out.size _⟩ | exact ⟨w.heap.size, rfl, rfl, by simp, by simp, by simp, Rt.below_drewN ((Below.refl w.heap.size w).alloc (Nat.le_refl _) _) _⟩ | (have hq := box3 (w := w) (X := (w.alloc (.cells #[.int .i64 0, .int .i64 0, .slice none 0 0] 24)).drewN (1 + nq)) (B := w.heap.size) (ROW.out nq) (.int .i64 (G : Int)) (.int .i64 (W : Int)) (.slice al ls.length cl) (Rt.below_drewN ((Below.refl w.heap.size w).alloc (Nat.le_refl _) _) _); exact ⟨w.heap.size, rfl, rfl, hq.1, hq.2.1, hq.2.2.1, hq.2.2.2 (Nat.le_refl _)⟩) | trace_state
  case rest =>
    obtain ⟨B, rfl, rfl, b0, b1, b2, BL⟩ := hcut
    have k0 := cell_regrown b0
    have k1 := cell_regrown b1
    have k2 := cell_regrown b2
    have cG1 := Tn.reg_of (u := wc) fun v _ => Tn.groups_any (G : Int) (W : Int) ((t : Int) + 1) (n1 : Int) al ls.length cl (by omega) (by omega) (by omega) (by omega) G1.out v
    have cG2 := Tn.reg_of (u := wc) fun v _ => Tn.groups_any (G : Int) (W : Int) (t : Int) (n2 : Int) al ls.length cl (by omega) (by omega) (by omega) (by omega) G2.out v
    have hw1 : IntKind.i64.wrap ((t : Int) + 1) = (t : Int) + 1 := by rw [IntKind.wrap_i64]; omega
    go_wp2_with fail
    refine wp_region_quiet_below (by kernel_rfl) (by kernel_rfl) ?_
    repeat (quiet_step (first | (with_reducible exact cG1 _ _) | (with_reducible exact cG2 _ _)))
    refine wpQuiet_nil ?_
    intro _ hw'
    obtain ⟨⟨dq, osq⟩, hw''⟩ := hw'
    subst hw''
    go_wp2
    go_ret
    exact ⟨ret_bool DQ.out, BL.out.trans ((below_regrown wc dq osq).mono BL.out.size)⟩
end Cc
end Go.Proofs.YtnchnlgnnlgjcaaGreat
