/- Contracts of package page: which heads are right, how many groups and lists there are, are groups right? -/
import Derived.Test.YtgpjmbhcfjafmaaPaWorld
namespace Go.Proofs.Ytgpjmbhcfjafmaa
set_option linter.unusedVariables false
open Go.RowKit
attribute [local go_sem ↓] Go.wp_at_zero Go.wp_at_succ

theorem within_any (n l m : Int) (q : Bool) (hq : (decide (l ≤ n) && decide (n ≤ m)) = q) (w : World) :
    Calls Try.prog 42 #[.int .i64 n, .int .i64 l, .int .i64 m] w fun e w' => e = .returned (.bool q) ∧ w' = w := by
  obtain ⟨p, ep⟩ : ∃ p, decide (l ≤ n) = p := ⟨_, rfl⟩
  rw [ep] at hq
  have HQ : Hid ((p && decide (n ≤ m)) = q) := hq
  clear hq
  cases p
  · go_enter Try.func42, Try.ntmps42
    go_wp2
    go_ret
    exact ⟨ret_bool (by rw [← HQ.out]; simp), rfl⟩
  · go_enter Try.func42, Try.ntmps42
    go_wp2
    go_ret
    exact ⟨ret_bool (by rw [← HQ.out]; simp), rfl⟩

set_option maxHeartbeats 1600000 in
theorem rightP_any (h0 h1 h2 h3 h4 h5 h6 : Int) (q : Bool) (hq : Pg.rightH [h0, h1, h2, h3, h4, h5, h6] = q) (w : World) :
    Calls Try.prog 36 #[.agg #[.int .i64 h0, .int .i64 h1, .int .i64 h2, .int .i64 h3, .int .i64 h4, .int .i64 h5, .int .i64 h6]] w fun e w' => e = .returned (.bool q) ∧ Below w.heap.size w w' := by
  rw [Pg.rightH_eq] at hq
  obtain ⟨p0, e0⟩ : ∃ p, Gp.okB h0 = p := ⟨_, rfl⟩
  obtain ⟨p1, e1⟩ : ∃ p, Gp.okB h1 = p := ⟨_, rfl⟩
  obtain ⟨p2, e2⟩ : ∃ p, (decide (1 ≤ h2) && decide (h2 ≤ 16)) = p := ⟨_, rfl⟩
  obtain ⟨p3, e3⟩ : ∃ p, (decide (1 ≤ h3) && decide (h3 ≤ 16)) = p := ⟨_, rfl⟩
  obtain ⟨p4, e4⟩ : ∃ p, (decide (0 ≤ h4) && decide (h4 ≤ 3)) = p := ⟨_, rfl⟩
  obtain ⟨p5, e5⟩ : ∃ p, (decide (0 ≤ h5) && decide (h5 ≤ 3)) = p := ⟨_, rfl⟩
  obtain ⟨p6, e6⟩ : ∃ p, (decide (0 ≤ h6) && decide (h6 ≤ 1023)) = p := ⟨_, rfl⟩
  have HQ : Hid ((p0 && p1 && p2 && p3 && p4 && p5 && p6) = q) := by
    show _ = _
    rw [← hq, ← e0, ← e1, ← e2, ← e3, ← e4, ← e5, ← e6]
    simp only [Bool.and_assoc]
  have E0 : Hid (Gp.okB h0 = p0) := e0
  have E1 : Hid (Gp.okB h1 = p1) := e1
  have E2 : Hid ((decide (1 ≤ h2) && decide (h2 ≤ 16)) = p2) := e2
  have E3 : Hid ((decide (1 ≤ h3) && decide (h3 ≤ 16)) = p3) := e3
  have E4 : Hid ((decide (0 ≤ h4) && decide (h4 ≤ 3)) = p4) := e4
  have E5 : Hid ((decide (0 ≤ h5) && decide (h5 ≤ 3)) = p5) := e5
  have E6 : Hid ((decide (0 ≤ h6) && decide (h6 ≤ 1023)) = p6) := e6
  clear e0 e1 e2 e3 e4 e5 e6 hq
  cases p0
  · go_enter Try.func36, Try.ntmps36
    go_wp2_with (first
      | (go_at_call 41; (first | (with_reducible refine (bitsB_any h0 _ E0.out _).mono ?_) | (with_reducible refine (bitsB_any h1 _ E1.out _).mono ?_)); rintro r w' ⟨rfl, hw⟩; cases hw.symm; clear hw)
      | (go_at_call 42; (first | (with_reducible refine (within_any h2 1 16 _ E2.out _).mono ?_) | (with_reducible refine (within_any h3 1 16 _ E3.out _).mono ?_) | (with_reducible refine (within_any h4 0 3 _ E4.out _).mono ?_) | (with_reducible refine (within_any h5 0 3 _ E5.out _).mono ?_) | (with_reducible refine (within_any h6 0 1023 _ E6.out _).mono ?_)); rintro r w' ⟨rfl, hw⟩; cases hw.symm; clear hw))
    go_ret
    exact ⟨ret_bool (by rw [← HQ.out]; simp), box_below _ _⟩
  cases p1
  · go_enter Try.func36, Try.ntmps36
    go_wp2_with (first
      | (go_at_call 41; (first | (with_reducible refine (bitsB_any h0 _ E0.out _).mono ?_) | (with_reducible refine (bitsB_any h1 _ E1.out _).mono ?_)); rintro r w' ⟨rfl, hw⟩; cases hw.symm; clear hw)
      | (go_at_call 42; (first | (with_reducible refine (within_any h2 1 16 _ E2.out _).mono ?_) | (with_reducible refine (within_any h3 1 16 _ E3.out _).mono ?_) | (with_reducible refine (within_any h4 0 3 _ E4.out _).mono ?_) | (with_reducible refine (within_any h5 0 3 _ E5.out _).mono ?_) | (with_reducible refine (within_any h6 0 1023 _ E6.out _).mono ?_)); rintro r w' ⟨rfl, hw⟩; cases hw.symm; clear hw))
    go_ret
    exact ⟨ret_bool (by rw [← HQ.out]; simp), box_below _ _⟩
  cases p2
  · go_enter Try.func36, Try.ntmps36
    go_wp2_with (first
      | (go_at_call 41; (first | (with_reducible refine (bitsB_any h0 _ E0.out _).mono ?_) | (with_reducible refine (bitsB_any h1 _ E1.out _).mono ?_)); rintro r w' ⟨rfl, hw⟩; cases hw.symm; clear hw)
      | (go_at_call 42; (first | (with_reducible refine (within_any h2 1 16 _ E2.out _).mono ?_) | (with_reducible refine (within_any h3 1 16 _ E3.out _).mono ?_) | (with_reducible refine (within_any h4 0 3 _ E4.out _).mono ?_) | (with_reducible refine (within_any h5 0 3 _ E5.out _).mono ?_) | (with_reducible refine (within_any h6 0 1023 _ E6.out _).mono ?_)); rintro r w' ⟨rfl, hw⟩; cases hw.symm; clear hw))
    go_ret
    exact ⟨ret_bool (by rw [← HQ.out]; simp), box_below _ _⟩
  cases p3
  · go_enter Try.func36, Try.ntmps36
    go_wp2_with (first
      | (go_at_call 41; (first | (with_reducible refine (bitsB_any h0 _ E0.out _).mono ?_) | (with_reducible refine (bitsB_any h1 _ E1.out _).mono ?_)); rintro r w' ⟨rfl, hw⟩; cases hw.symm; clear hw)
      | (go_at_call 42; (first | (with_reducible refine (within_any h2 1 16 _ E2.out _).mono ?_) | (with_reducible refine (within_any h3 1 16 _ E3.out _).mono ?_) | (with_reducible refine (within_any h4 0 3 _ E4.out _).mono ?_) | (with_reducible refine (within_any h5 0 3 _ E5.out _).mono ?_) | (with_reducible refine (within_any h6 0 1023 _ E6.out _).mono ?_)); rintro r w' ⟨rfl, hw⟩; cases hw.symm; clear hw))
    go_ret
    exact ⟨ret_bool (by rw [← HQ.out]; simp), box_below _ _⟩
  cases p4
  · go_enter Try.func36, Try.ntmps36
    go_wp2_with (first
      | (go_at_call 41; (first | (with_reducible refine (bitsB_any h0 _ E0.out _).mono ?_) | (with_reducible refine (bitsB_any h1 _ E1.out _).mono ?_)); rintro r w' ⟨rfl, hw⟩; cases hw.symm; clear hw)
      | (go_at_call 42; (first | (with_reducible refine (within_any h2 1 16 _ E2.out _).mono ?_) | (with_reducible refine (within_any h3 1 16 _ E3.out _).mono ?_) | (with_reducible refine (within_any h4 0 3 _ E4.out _).mono ?_) | (with_reducible refine (within_any h5 0 3 _ E5.out _).mono ?_) | (with_reducible refine (within_any h6 0 1023 _ E6.out _).mono ?_)); rintro r w' ⟨rfl, hw⟩; cases hw.symm; clear hw))
    go_ret
    exact ⟨ret_bool (by rw [← HQ.out]; simp), box_below _ _⟩
  cases p5
  · go_enter Try.func36, Try.ntmps36
    go_wp2_with (first
      | (go_at_call 41; (first | (with_reducible refine (bitsB_any h0 _ E0.out _).mono ?_) | (with_reducible refine (bitsB_any h1 _ E1.out _).mono ?_)); rintro r w' ⟨rfl, hw⟩; cases hw.symm; clear hw)
      | (go_at_call 42; (first | (with_reducible refine (within_any h2 1 16 _ E2.out _).mono ?_) | (with_reducible refine (within_any h3 1 16 _ E3.out _).mono ?_) | (with_reducible refine (within_any h4 0 3 _ E4.out _).mono ?_) | (with_reducible refine (within_any h5 0 3 _ E5.out _).mono ?_) | (with_reducible refine (within_any h6 0 1023 _ E6.out _).mono ?_)); rintro r w' ⟨rfl, hw⟩; cases hw.symm; clear hw))
    go_ret
    exact ⟨ret_bool (by rw [← HQ.out]; simp), box_below _ _⟩
  cases p6
  · go_enter Try.func36, Try.ntmps36
    go_wp2_with (first
      | (go_at_call 41; (first | (with_reducible refine (bitsB_any h0 _ E0.out _).mono ?_) | (with_reducible refine (bitsB_any h1 _ E1.out _).mono ?_)); rintro r w' ⟨rfl, hw⟩; cases hw.symm; clear hw)
      | (go_at_call 42; (first | (with_reducible refine (within_any h2 1 16 _ E2.out _).mono ?_) | (with_reducible refine (within_any h3 1 16 _ E3.out _).mono ?_) | (with_reducible refine (within_any h4 0 3 _ E4.out _).mono ?_) | (with_reducible refine (within_any h5 0 3 _ E5.out _).mono ?_) | (with_reducible refine (within_any h6 0 1023 _ E6.out _).mono ?_)); rintro r w' ⟨rfl, hw⟩; cases hw.symm; clear hw))
    go_ret
    exact ⟨ret_bool (by rw [← HQ.out]; simp), box_below _ _⟩
  go_enter Try.func36, Try.ntmps36
  go_wp2_with (first
    | (go_at_call 41; (first | (with_reducible refine (bitsB_any h0 _ E0.out _).mono ?_) | (with_reducible refine (bitsB_any h1 _ E1.out _).mono ?_)); rintro r w' ⟨rfl, hw⟩; cases hw.symm; clear hw)
    | (go_at_call 42; (first | (with_reducible refine (within_any h2 1 16 _ E2.out _).mono ?_) | (with_reducible refine (within_any h3 1 16 _ E3.out _).mono ?_) | (with_reducible refine (within_any h4 0 3 _ E4.out _).mono ?_) | (with_reducible refine (within_any h5 0 3 _ E5.out _).mono ?_) | (with_reducible refine (within_any h6 0 1023 _ E6.out _).mono ?_)); rintro r w' ⟨rfl, hw⟩; cases hw.symm; clear hw))
  go_ret
  exact ⟨ret_bool (by rw [← HQ.out]; simp), box_below _ _⟩

theorem groupsOf_any (a : Option Addr) (c : Nat) (l : List (Int × Int × List Int)) (n each : Int) (q : Bool) (w : World) (ha : Gps w a l) (hl : l.length ≤ maxLen) (hq : Pg.shapeB l n each = q) :
    Calls Try.prog 43 #[.slice a l.length c, .int .i64 n, .int .i64 each] w fun e w' => e = .returned (.bool q) ∧ Below w.heap.size w w' := by
  unfold maxLen at hl
  have HA : Hid (Gps w a l) := ha
  have HQ : Hid (Pg.shapeB l n each = q) := hq
  clear ha hq
  go_enter Try.func43, Try.ntmps43
  go_wp2
  go_loopw [11] (fun i wr => ∃ k : Nat, k ≤ l.length ∧ i = .int .i64 k ∧ Below w.heap.size w wr ∧ ∀ j, j < k → ((Pg.gc (Pg.nth l j)).length : Int) = each) (fun i _ => l.length - (intOf i).toNat)
  case atStart => exact ⟨0, Nat.zero_le _, rfl, Below.refl _ _, fun j hj => by omega⟩
  case round =>
    obtain ⟨k, hk, rfl, hbel, hall⟩ := hrel
    have HL : Hid (∀ j, j < k → ((Pg.gc (Pg.nth l j)).length : Int) = each) := hall
    have HB : Hid (Below w.heap.size w wr) := hbel
    have hsz := hbel.size
    clear hall hbel
    by_cases hlt : k < l.length
    · obtain ⟨b, o, rfl, hall⟩ := HA.out.get hlt
      obtain ⟨a', c', hg⟩ := hall k hlt
      obtain ⟨d0, d1, d2, d3⟩ := hg.keep HB.out
      have hbl := hg.lt
      clear hall d3 hg
      by_cases hz : ((Pg.gc (Pg.nth l k)).length : Int) = each
      · have HZ : Hid (((Pg.gc (Pg.nth l k)).length : Int) = each) := hz
        have g : (((Pg.gc (Pg.nth l k)).length : Int) != each) = false := by rw [hz]; simp
        clear hz
        go_wp2
        go_roundw
        case rel =>
          refine ⟨k + 1, by omega, by go_num, HB.out.alloc (by omega) _, fun j hj => ?_⟩
          by_cases e : j = k
          · subst e; exact HZ.out
          · exact HL.out j (by omega)
        case measure => simp [intOf]; omega
      · have g : (((Pg.gc (Pg.nth l k)).length : Int) != each) = true := by simp [hz]
        go_wp2
        go_ret
        refine ⟨ret_bool ?_, HB.out.alloc (by omega) _⟩
        rw [← HQ.out]
        unfold Pg.shapeB
        exact (decide_eq_false (fun e => hz (e.1 k hlt))).symm
    · go_wp2
      go_ret
      refine ⟨ret_bool ?_, HB.out⟩
      rw [← HQ.out]
      unfold Pg.shapeB
      rw [Bool.eq_iff_iff]
      simp only [beq_iff_eq, decide_eq_true_eq]
      exact ⟨fun e => ⟨fun i hi => HL.out i (by omega), e⟩, fun e => e.2⟩

theorem listsOf_any (a : Option Addr) (c : Nat) (ls : List (List Int)) (n d : Int) (q : Bool) (w : World) (ha : Tbl w a ls) (hl : ls.length ≤ maxLen) (hq : Pg.shapedB ls n d = q) :
    Calls Try.prog 37 #[.slice a ls.length c, .int .i64 n, .int .i64 d] w fun e w' => e = .returned (.bool q) ∧ w' = w := by
  unfold maxLen at hl
  have HA : Hid (Tbl w a ls) := ha
  have HQ : Hid (Pg.shapedB ls n d = q) := hq
  clear ha hq
  go_enter Try.func37, Try.ntmps37
  go_wp2
  go_loop [11] (fun i => ∃ k : Nat, k ≤ ls.length ∧ i = .int .i64 k ∧ ∀ j, j < k → ((Tb.row ls j).length : Int) = d) (fun i => ls.length - (intOf i).toNat)
  case atStart => exact ⟨0, Nat.zero_le _, rfl, fun j hj => by omega⟩
  case round =>
    obtain ⟨k, hk, rfl, hall⟩ := hrel
    have HL : Hid (∀ j, j < k → ((Tb.row ls j).length : Int) = d) := hall
    clear hall
    by_cases hlt : k < ls.length
    · obtain ⟨b, o, rfl, hall⟩ := HA.out.get hlt
      obtain ⟨A, C, d0, _, _⟩ := hall k hlt
      clear hall
      by_cases hz : ((Tb.row ls k).length : Int) = d
      · have HZ : Hid (((Tb.row ls k).length : Int) = d) := hz
        have g : (((Tb.row ls k).length : Int) != d) = false := by rw [hz]; simp
        clear hz
        go_wp2
        go_round
        case rel =>
          refine ⟨k + 1, by omega, by go_num, fun j hj => ?_⟩
          by_cases e : j = k
          · subst e; exact HZ.out
          · exact HL.out j (by omega)
        case measure => simp [intOf]; omega
      · have g : (((Tb.row ls k).length : Int) != d) = true := by simp [hz]
        go_wp2
        go_ret
        refine ⟨ret_bool ?_, rfl⟩
        rw [← HQ.out]
        unfold Pg.shapedB
        exact (decide_eq_false (fun e => hz (e.1 k hlt))).symm
    · go_wp2
      go_ret
      refine ⟨ret_bool ?_, rfl⟩
      rw [← HQ.out]
      unfold Pg.shapedB
      rw [Bool.eq_iff_iff]
      simp only [beq_iff_eq, decide_eq_true_eq]
      exact ⟨fun e => ⟨fun i hi => HL.out i (by omega), e⟩, fun e => e.2⟩

theorem allRight_any (a : Option Addr) (c b s n : Nat) (l : List (Int × Int × List Int)) (e : Int) (w : World) (ha : Gps w a l) (hl : l.length ≤ 10000) (hst : Gp.St b s) (hn : ∀ i, i < l.length → (Pg.gc (Pg.nth l i)).length = n) (h1 : 1 ≤ n) (h2 : n ≤ 256) (hi : InG l) (he : Pg.rightsN s l l.length = e) :
    Calls Try.prog 44 #[.slice a l.length c, .int .i64 b] w fun r w' => r = .returned (.int .i64 e) ∧ Below w.heap.size w w' := by
  have HA : Hid (Gps w a l) := ha
  have HI : Hid (InG l) := hi
  have HN : Hid (∀ i, i < l.length → (Pg.gc (Pg.nth l i)).length = n) := hn
  have ST : Hid (Gp.St b s) := hst
  have HE : Hid (Pg.rightsN s l l.length = e) := he
  clear ha hi hn hst he
  go_enter Try.func44, Try.ntmps44
  go_wp2
  go_loopw [10] (fun i wr => ∃ k : Nat, k ≤ l.length ∧ i = .int .i64 k ∧ Below w.heap.size w wr ∧ Pg.rightsN (s : Int) l k = 0) (fun i _ => l.length - (intOf i).toNat)
  case atStart => exact ⟨0, Nat.zero_le _, rfl, Below.refl _ _, rfl⟩
  case round =>
    obtain ⟨k, hk, rfl, hbel, hall⟩ := hrel
    have HL : Hid (Pg.rightsN (s : Int) l k = 0) := hall
    have HB : Hid (Below w.heap.size w wr) := hbel
    have hsz := hbel.size
    clear hall hbel
    by_cases hlt : k < l.length
    · obtain ⟨b1, o1, rfl, hall⟩ := HA.out.get hlt
      obtain ⟨a', c', hg⟩ := hall k hlt
      obtain ⟨d0, d1, d2, d3⟩ := hg.keep HB.out
      have D3 : Hid (Lst .i64 wr a' (Pg.gc (Pg.nth l k))) := d3
      have hbl := hg.lt
      obtain ⟨_, _, g2, g3, _⟩ := HI.out k hlt
      obtain ⟨r, er⟩ : ∃ r, Gp.right (s : Int) (Pg.gs (Pg.nth l k)) (Pg.gc (Pg.nth l k)) = r := ⟨_, rfl⟩
      have ER : Hid (Gp.right (s : Int) (Pg.gs (Pg.nth l k)) (Pg.gc (Pg.nth l k)) = r) := er
      clear hall d3 hg er
      obtain ⟨pz, epz⟩ : ∃ p, (r != 0) = p := ⟨_, rfl⟩
      cases pz
      all_goals
        go_wp2_with (go_at_call 47; refine (right_any _ _ _ _ b s (Pg.gc (Pg.nth l k)) r _ (D3.out.keep (box_below _ _)) ST.out (by rw [HN.out k hlt]; omega) (by rw [HN.out k hlt]; omega) g2 g3 ER.out).mono ?_; rintro e v1 ⟨rfl, hb⟩; have hbc : Hid (Below w.heap.size w v1) := below_then (below_then HB.out (box_below _ _)) hb; clear hb)
      · have r0 : r = 0 := by simpa using epz
        go_roundw
        case rel =>
          refine ⟨k + 1, by omega, by go_num, hbc.out, ?_⟩
          rw [Pg.rightsN_ok HL.out, ER.out, r0]
        case measure => simp [intOf]; omega
      · have r0 : ¬ r = 0 := by simpa using epz
        go_ret
        refine ⟨ret_num ?_, hbc.out⟩
        have hk1 : Pg.rightsN (s : Int) l (k + 1) = r := by rw [Pg.rightsN_ok HL.out, ER.out]
        rw [← HE.out, Pg.rightsN_stop (k := k + 1) (by rw [hk1]; exact r0) (by omega), hk1]
    · have e : k = l.length := by omega
      subst e
      go_wp2
      go_ret
      exact ⟨ret_num (by rw [← HE.out, HL.out]), HB.out⟩
end Go.Proofs.Ytgpjmbhcfjafmaa
