/- Contracts of the document's own answers of layer 8, and of the law's own helpers: heads, shapes, lists of groups. -/
import Derived.Test.YtimkfkolkplpdaaGreatPgWorld
namespace Go.Proofs.YtimkfkolkplpdaaGreat
set_option linter.unusedVariables false
open Go.RowKit
attribute [local go_sem ↓] Go.wp_at_zero Go.wp_at_succ

theorem refBitsB_any (b : Int) (q : Bool) (hq : Gp.okB b = q) (w : World) :
    Calls Tryz.prog 31 #[.int .i64 b] w fun e w' => e = .returned (.bool q) ∧ w' = w := by
  rcases ok_or b with h | ⟨n, rfl, h⟩
  · have e : q = false := by rw [← hq]; unfold Gp.okB; simp [h.1, h.2.1, h.2.2]
    subst e
    exact refBits_no b h w
  · have e : q = true := by rw [← hq]; rcases h with rfl | rfl | rfl <;> rfl
    subst e
    exact refBits_yes n h w
theorem bitsB_any (b : Int) (q : Bool) (hq : Gp.okB b = q) (w : World) :
    Calls Tryz.prog 29 #[.int .i64 b] w fun e w' => e = .returned (.bool q) ∧ w' = w := by
  rcases ok_or b with h | ⟨n, rfl, h⟩
  · have e : q = false := by rw [← hq]; unfold Gp.okB; simp [h.1, h.2.1, h.2.2]
    subst e
    exact bits_no b h w
  · have e : q = true := by rw [← hq]; rcases h with rfl | rfl | rfl <;> rfl
    subst e
    exact bits_yes n h w

theorem head_any (h0 h1 h2 h3 h4 h5 h6 : Int) (w : World) :
    Calls Tryz.prog 9 #[.agg #[.int .i64 h0, .int .i64 h1, .int .i64 h2, .int .i64 h3, .int .i64 h4, .int .i64 h5, .int .i64 h6]] w fun e w' =>
      e = .returned (.agg #[.int .i64 h0, .int .i64 h1, .int .i64 h2, .int .i64 h3, .int .i64 h4, .int .i64 h5, .int .i64 h6]) ∧ Below w.heap.size w w' := by
  go_enter Tryz.func9, Tryz.ntmps9
  go_wp2
  refine bodyPost_ret (v := .agg #[.int .i64 h0, .int .i64 h1, .int .i64 h2, .int .i64 h3, .int .i64 h4, .int .i64 h5, .int .i64 h6]) (by simp [results, Tryz.results9, go_sem]) rfl ⟨rfl, ?_⟩
  exact two_boxes _ _ _

theorem Pg.rightH_eq (h0 h1 h2 h3 h4 h5 h6 : Int) : Pg.rightH [h0, h1, h2, h3, h4, h5, h6] = (Gp.okB h0 && Gp.okB h1 && decide (1 ≤ h2) && decide (h2 ≤ 16) && decide (1 ≤ h3) && decide (h3 ≤ 16) && decide (0 ≤ h4) && decide (h4 ≤ 3) && decide (0 ≤ h5) && decide (h5 ≤ 3) && decide (0 ≤ h6) && decide (h6 ≤ 1023)) := rfl
set_option maxHeartbeats 1600000 in
theorem refRightH_any (h0 h1 h2 h3 h4 h5 h6 : Int) (q : Bool) (hq : Pg.rightH [h0, h1, h2, h3, h4, h5, h6] = q) (w : World) :
    Calls Tryz.prog 12 #[.agg #[.int .i64 h0, .int .i64 h1, .int .i64 h2, .int .i64 h3, .int .i64 h4, .int .i64 h5, .int .i64 h6]] w fun e w' => e = .returned (.bool q) ∧ Below w.heap.size w w' := by
  rw [Pg.rightH_eq] at hq
  obtain ⟨p0, e0⟩ : ∃ p, Gp.okB h0 = p := ⟨_, rfl⟩
  obtain ⟨p1, e1⟩ : ∃ p, Gp.okB h1 = p := ⟨_, rfl⟩
  obtain ⟨p2, e2⟩ : ∃ p, decide (1 ≤ h2) = p := ⟨_, rfl⟩
  obtain ⟨p3, e3⟩ : ∃ p, decide (h2 ≤ 16) = p := ⟨_, rfl⟩
  obtain ⟨p4, e4⟩ : ∃ p, decide (1 ≤ h3) = p := ⟨_, rfl⟩
  obtain ⟨p5, e5⟩ : ∃ p, decide (h3 ≤ 16) = p := ⟨_, rfl⟩
  obtain ⟨p6, e6⟩ : ∃ p, decide (0 ≤ h4) = p := ⟨_, rfl⟩
  obtain ⟨p7, e7⟩ : ∃ p, decide (h4 ≤ 3) = p := ⟨_, rfl⟩
  obtain ⟨p8, e8⟩ : ∃ p, decide (0 ≤ h5) = p := ⟨_, rfl⟩
  obtain ⟨p9, e9⟩ : ∃ p, decide (h5 ≤ 3) = p := ⟨_, rfl⟩
  obtain ⟨p10, e10⟩ : ∃ p, decide (0 ≤ h6) = p := ⟨_, rfl⟩
  obtain ⟨p11, e11⟩ : ∃ p, decide (h6 ≤ 1023) = p := ⟨_, rfl⟩
  rw [e0, e1, e2, e3, e4, e5, e6, e7, e8, e9, e10, e11] at hq
  have E0 : Hid (Gp.okB h0 = p0) := e0
  have E1 : Hid (Gp.okB h1 = p1) := e1
  clear e0 e1
  cases p0
  · go_enter Tryz.func12, Tryz.ntmps12
    go_wp2_with fail
    refine (refBitsB_any h0 _ E0.out _).mono ?_
    rintro r w' ⟨rfl, hw⟩
    cases hw.symm
    clear hw
    go_wp2
    go_ret
    exact ⟨ret_bool (by rw [← hq]; simp), box_below _ _⟩
  cases p1
  · go_enter Tryz.func12, Tryz.ntmps12
    go_wp2_with fail
    refine (refBitsB_any h0 _ E0.out _).mono ?_
    rintro r w' ⟨rfl, hw⟩
    cases hw.symm
    clear hw
    go_wp2_with fail
    refine (refBitsB_any h1 _ E1.out _).mono ?_
    rintro r w' ⟨rfl, hw⟩
    cases hw.symm
    clear hw
    go_wp2
    go_ret
    exact ⟨ret_bool (by rw [← hq]; simp), box_below _ _⟩
  cases p2
  · go_enter Tryz.func12, Tryz.ntmps12
    go_wp2_with fail
    refine (refBitsB_any h0 _ E0.out _).mono ?_
    rintro r w' ⟨rfl, hw⟩
    cases hw.symm
    clear hw
    go_wp2_with fail
    refine (refBitsB_any h1 _ E1.out _).mono ?_
    rintro r w' ⟨rfl, hw⟩
    cases hw.symm
    clear hw
    go_wp2
    go_ret
    exact ⟨ret_bool (by rw [← hq]; simp), box_below _ _⟩
  cases p3
  · go_enter Tryz.func12, Tryz.ntmps12
    go_wp2_with fail
    refine (refBitsB_any h0 _ E0.out _).mono ?_
    rintro r w' ⟨rfl, hw⟩
    cases hw.symm
    clear hw
    go_wp2_with fail
    refine (refBitsB_any h1 _ E1.out _).mono ?_
    rintro r w' ⟨rfl, hw⟩
    cases hw.symm
    clear hw
    go_wp2
    go_ret
    exact ⟨ret_bool (by rw [← hq]; simp), box_below _ _⟩
  cases p4
  · go_enter Tryz.func12, Tryz.ntmps12
    go_wp2_with fail
    refine (refBitsB_any h0 _ E0.out _).mono ?_
    rintro r w' ⟨rfl, hw⟩
    cases hw.symm
    clear hw
    go_wp2_with fail
    refine (refBitsB_any h1 _ E1.out _).mono ?_
    rintro r w' ⟨rfl, hw⟩
    cases hw.symm
    clear hw
    go_wp2
    go_ret
    exact ⟨ret_bool (by rw [← hq]; simp), box_below _ _⟩
  cases p5
  · go_enter Tryz.func12, Tryz.ntmps12
    go_wp2_with fail
    refine (refBitsB_any h0 _ E0.out _).mono ?_
    rintro r w' ⟨rfl, hw⟩
    cases hw.symm
    clear hw
    go_wp2_with fail
    refine (refBitsB_any h1 _ E1.out _).mono ?_
    rintro r w' ⟨rfl, hw⟩
    cases hw.symm
    clear hw
    go_wp2
    go_ret
    exact ⟨ret_bool (by rw [← hq]; simp), box_below _ _⟩
  cases p6
  · go_enter Tryz.func12, Tryz.ntmps12
    go_wp2_with fail
    refine (refBitsB_any h0 _ E0.out _).mono ?_
    rintro r w' ⟨rfl, hw⟩
    cases hw.symm
    clear hw
    go_wp2_with fail
    refine (refBitsB_any h1 _ E1.out _).mono ?_
    rintro r w' ⟨rfl, hw⟩
    cases hw.symm
    clear hw
    go_wp2
    go_ret
    exact ⟨ret_bool (by rw [← hq]; simp), box_below _ _⟩
  cases p7
  · go_enter Tryz.func12, Tryz.ntmps12
    go_wp2_with fail
    refine (refBitsB_any h0 _ E0.out _).mono ?_
    rintro r w' ⟨rfl, hw⟩
    cases hw.symm
    clear hw
    go_wp2_with fail
    refine (refBitsB_any h1 _ E1.out _).mono ?_
    rintro r w' ⟨rfl, hw⟩
    cases hw.symm
    clear hw
    go_wp2
    go_ret
    exact ⟨ret_bool (by rw [← hq]; simp), box_below _ _⟩
  cases p8
  · go_enter Tryz.func12, Tryz.ntmps12
    go_wp2_with fail
    refine (refBitsB_any h0 _ E0.out _).mono ?_
    rintro r w' ⟨rfl, hw⟩
    cases hw.symm
    clear hw
    go_wp2_with fail
    refine (refBitsB_any h1 _ E1.out _).mono ?_
    rintro r w' ⟨rfl, hw⟩
    cases hw.symm
    clear hw
    go_wp2
    go_ret
    exact ⟨ret_bool (by rw [← hq]; simp), box_below _ _⟩
  cases p9
  · go_enter Tryz.func12, Tryz.ntmps12
    go_wp2_with fail
    refine (refBitsB_any h0 _ E0.out _).mono ?_
    rintro r w' ⟨rfl, hw⟩
    cases hw.symm
    clear hw
    go_wp2_with fail
    refine (refBitsB_any h1 _ E1.out _).mono ?_
    rintro r w' ⟨rfl, hw⟩
    cases hw.symm
    clear hw
    go_wp2
    go_ret
    exact ⟨ret_bool (by rw [← hq]; simp), box_below _ _⟩
  cases p10
  · go_enter Tryz.func12, Tryz.ntmps12
    go_wp2_with fail
    refine (refBitsB_any h0 _ E0.out _).mono ?_
    rintro r w' ⟨rfl, hw⟩
    cases hw.symm
    clear hw
    go_wp2_with fail
    refine (refBitsB_any h1 _ E1.out _).mono ?_
    rintro r w' ⟨rfl, hw⟩
    cases hw.symm
    clear hw
    go_wp2
    go_ret
    exact ⟨ret_bool (by rw [← hq]; simp), box_below _ _⟩
  cases p11
  · go_enter Tryz.func12, Tryz.ntmps12
    go_wp2_with fail
    refine (refBitsB_any h0 _ E0.out _).mono ?_
    rintro r w' ⟨rfl, hw⟩
    cases hw.symm
    clear hw
    go_wp2_with fail
    refine (refBitsB_any h1 _ E1.out _).mono ?_
    rintro r w' ⟨rfl, hw⟩
    cases hw.symm
    clear hw
    go_wp2
    go_ret
    exact ⟨ret_bool (by rw [← hq]; simp), box_below _ _⟩
  go_enter Tryz.func12, Tryz.ntmps12
  go_wp2_with fail
  refine (refBitsB_any h0 _ E0.out _).mono ?_
  rintro r w' ⟨rfl, hw⟩
  cases hw.symm
  clear hw
  go_wp2_with fail
  refine (refBitsB_any h1 _ E1.out _).mono ?_
  rintro r w' ⟨rfl, hw⟩
  cases hw.symm
  clear hw
  go_wp2
  go_ret
  exact ⟨ret_bool (by rw [← hq]; simp), box_below _ _⟩

/-- Are there so many groups of so many codes? -/
def Pg.shapeB (l : List (Int × Int × List Int)) (n each : Int) : Bool := decide ((∀ i, i < l.length → ((Pg.gc (Pg.nth l i)).length : Int) = each) ∧ (l.length : Int) = n)
theorem refShapeP_any (a : Option Addr) (c : Nat) (l : List (Int × Int × List Int)) (n each : Int) (q : Bool) (w : World) (ha : Gps w a l) (hl : l.length ≤ maxLen) (hq : Pg.shapeB l n each = q) :
    Calls Tryz.prog 32 #[.slice a l.length c, .int .i64 n, .int .i64 each] w fun e w' => e = .returned (.bool q) ∧ w' = w := by
  unfold maxLen at hl
  have HA : Hid (Gps w a l) := ha
  have HQ : Hid (Pg.shapeB l n each = q) := hq
  clear ha hq
  go_enter Tryz.func32, Tryz.ntmps32
  go_wp2
  go_loop [7] (fun i => ∃ k : Nat, k ≤ l.length ∧ i = .int .i64 k ∧ ∀ j, j < k → ((Pg.gc (Pg.nth l j)).length : Int) = each) (fun i => l.length - (intOf i).toNat)
  case atStart => exact ⟨0, Nat.zero_le _, rfl, fun j hj => by omega⟩
  case round =>
    obtain ⟨k, hk, rfl, hall⟩ := hrel
    have HL : Hid (∀ j, j < k → ((Pg.gc (Pg.nth l j)).length : Int) = each) := hall
    clear hall
    by_cases hlt : k < l.length
    · obtain ⟨b, o, rfl, hall⟩ := HA.out.get hlt
      obtain ⟨a', c', d0, d1, d2, d3⟩ := hall k hlt
      clear hall d3
      by_cases hz : ((Pg.gc (Pg.nth l k)).length : Int) = each
      · have HZ : Hid (((Pg.gc (Pg.nth l k)).length : Int) = each) := hz
        have g : (((Pg.gc (Pg.nth l k)).length : Int) != each) = false := by rw [hz]; simp
        clear hz
        go_wp2
        go_round
        case rel =>
          refine ⟨k + 1, by omega, by go_num, fun j hj => ?_⟩
          by_cases e : j = k
          · subst e; exact HZ.out
          · exact HL.out j (by omega)
        case measure => simp [intOf]; omega
      · have g : (((Pg.gc (Pg.nth l k)).length : Int) != each) = true := by simp [hz]
        go_wp2
        go_ret
        refine ⟨ret_bool ?_, rfl⟩
        rw [← HQ.out]
        unfold Pg.shapeB
        exact (decide_eq_false (fun e => hz (e.1 k hlt))).symm
    · go_wp2
      go_ret
      refine ⟨ret_bool ?_, rfl⟩
      rw [← HQ.out]
      unfold Pg.shapeB
      rw [Bool.eq_iff_iff]
      simp only [beq_iff_eq, decide_eq_true_eq]
      exact ⟨fun e => ⟨fun i hi => HL.out i (by omega), e⟩, fun e => e.2⟩
end Go.Proofs.YtimkfkolkplpdaaGreat
