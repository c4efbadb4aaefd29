/- The law's own helpers of layer 8: is a case small, are tables shaped? -/
import Derived.Test.YtimkfkolkplpdaaGreatPgSize
namespace Go.Proofs.YtimkfkolkplpdaaGreat
set_option linter.unusedVariables false
open Go.RowKit
attribute [local go_sem ↓] Go.wp_at_zero Go.wp_at_succ

/-- Are there as many lists of as many numbers as a head says? -/
def Pg.shapedB (ls : List (List Int)) (n d : Int) : Bool := decide ((∀ i, i < ls.length → ((Tb.row ls i).length : Int) = d) ∧ (ls.length : Int) = n)
theorem shaped_any (h0 h1 h2 h3 h4 h5 h6 : Int) (a : Option Addr) (c : Nat) (ls : List (List Int)) (q : Bool) (w : World) (ha : Tbl w a ls) (hl : ls.length ≤ maxLen) (hq : Pg.shapedB ls h2 h3 = q) :
    Calls Tryz.prog 20 #[.agg #[.int .i64 h0, .int .i64 h1, .int .i64 h2, .int .i64 h3, .int .i64 h4, .int .i64 h5, .int .i64 h6], .slice a ls.length c] w fun e w' => e = .returned (.bool q) ∧ Below w.heap.size w w' := by
  unfold maxLen at hl
  have HA : Hid (Tbl w a ls) := ha
  have HQ : Hid (Pg.shapedB ls h2 h3 = q) := hq
  clear ha hq
  go_enter Tryz.func20, Tryz.ntmps20
  go_wp2
  go_loop [9] (fun i => ∃ k : Nat, k ≤ ls.length ∧ i = .int .i64 k ∧ ∀ j, j < k → ((Tb.row ls j).length : Int) = h3) (fun i => ls.length - (intOf i).toNat)
  case atStart => exact ⟨0, Nat.zero_le _, rfl, fun j hj => by omega⟩
  case round =>
    obtain ⟨k, hk, rfl, hall⟩ := hrel
    have HL : Hid (∀ j, j < k → ((Tb.row ls j).length : Int) = h3) := hall
    clear hall
    by_cases hlt : k < ls.length
    · obtain ⟨b, o, rfl, hall⟩ := HA.out.get hlt
      obtain ⟨A, C, d0, _, _⟩ := hall k hlt
      have hbl := World.block_lt_of_cell? w _ d0
      clear hall
      by_cases hz : ((Tb.row ls k).length : Int) = h3
      · have HZ : Hid (((Tb.row ls k).length : Int) = h3) := hz
        have g : (((Tb.row ls k).length : Int) != h3) = false := by rw [hz]; simp
        clear hz
        go_wp2
        go_round
        case rel =>
          refine ⟨k + 1, by omega, by go_num, fun j hj => ?_⟩
          by_cases e : j = k
          · subst e; exact HZ.out
          · exact HL.out j (by omega)
        case measure => simp [intOf]; omega
      · have g : (((Tb.row ls k).length : Int) != h3) = true := by simp [hz]
        go_wp2
        go_ret
        refine ⟨ret_bool ?_, box_below _ _⟩
        rw [← HQ.out]
        unfold Pg.shapedB
        exact (decide_eq_false (fun e => hz (e.1 k hlt))).symm
    · go_wp2
      go_ret
      refine ⟨ret_bool ?_, box_below _ _⟩
      rw [← HQ.out]
      unfold Pg.shapedB
      rw [Bool.eq_iff_iff]
      simp only [beq_iff_eq, decide_eq_true_eq]
      exact ⟨fun e => ⟨fun i hi => HL.out i (by omega), e⟩, fun e => e.2⟩

/-- May a case be gone through? -/
def Pg.smallB (ks vs : List (Int × Int × List Int)) : Bool := decide (ks.length ≤ 20 ∧ (∀ i, i < ks.length → (Pg.gc (Pg.nth ks i)).length ≤ 40) ∧ vs.length ≤ 20 ∧ ∀ i, i < vs.length → (Pg.gc (Pg.nth vs i)).length ≤ 40)
theorem Pg.smallB_all {ks vs : List (Int × Int × List Int)} (h : Pg.smallB ks vs = true) : ks.length ≤ 20 ∧ (∀ i, i < ks.length → (Pg.gc (Pg.nth ks i)).length ≤ 40) ∧ vs.length ≤ 20 ∧ ∀ i, i < vs.length → (Pg.gc (Pg.nth vs i)).length ≤ 40 := by
  unfold Pg.smallB at h
  simp only [decide_eq_true_eq] at h
  exact h
theorem Pg.smallB_no {ks vs : List (Int × Int × List Int)} (h : 20 < ks.length ∨ 20 < vs.length) : Pg.smallB ks vs = false := by
  unfold Pg.smallB
  exact decide_eq_false (fun e => by have := e.1; have := e.2.2.1; omega)
theorem Pg.smallB_far1 {ks vs : List (Int × Int × List Int)} {i : Nat} (hi : i < ks.length) (h : 40 < (Pg.gc (Pg.nth ks i)).length) : Pg.smallB ks vs = false := by
  unfold Pg.smallB
  exact decide_eq_false (fun e => by have := e.2.1 i hi; omega)
theorem Pg.smallB_far2 {ks vs : List (Int × Int × List Int)} {i : Nat} (hi : i < vs.length) (h : 40 < (Pg.gc (Pg.nth vs i)).length) : Pg.smallB ks vs = false := by
  unfold Pg.smallB
  exact decide_eq_false (fun e => by have := e.2.2.2 i hi; omega)
theorem Pg.smallB_yes {ks vs : List (Int × Int × List Int)} (h1 : ks.length ≤ 20) (h2 : ∀ i, i < ks.length → (Pg.gc (Pg.nth ks i)).length ≤ 40) (h3 : vs.length ≤ 20) (h4 : ∀ i, i < vs.length → (Pg.gc (Pg.nth vs i)).length ≤ 40) : Pg.smallB ks vs = true := by
  unfold Pg.smallB
  exact decide_eq_true ⟨h1, h2, h3, h4⟩

set_option maxRecDepth 100000 in
set_option maxHeartbeats 1600000 in
theorem small_any (h0 h1 h2 h3 h4 h5 h6 : Int) (a1 a2 : Option Addr) (c1 c2 : Nat) (ks vs : List (Int × Int × List Int)) (q : Bool) (w : World) (ha : Gps w a1 ks) (hb : Gps w a2 vs) (lk : ks.length ≤ maxLen) (lv : vs.length ≤ maxLen) (ik : InG ks) (iv : InG vs) (hq : Pg.smallB ks vs = q) :
    Calls Tryz.prog 6 #[.agg #[.int .i64 h0, .int .i64 h1, .int .i64 h2, .int .i64 h3, .int .i64 h4, .int .i64 h5, .int .i64 h6, .slice a1 ks.length c1, .slice a2 vs.length c2]] w fun e w' => e = .returned (.bool q) ∧ Below w.heap.size w w' := by
  unfold maxLen at lk lv
  have HA : Hid (Gps w a1 ks) := ha
  have HB : Hid (Gps w a2 vs) := hb
  have IK : Hid (InG ks) := ik
  have IV : Hid (InG vs) := iv
  have HQ : Hid (Pg.smallB ks vs = q) := hq
  clear ha hb hq ik iv
  go_enter Tryz.func6, Tryz.ntmps6
  go_wp2
  obtain ⟨u, hu⟩ : ∃ u, (w.alloc (.cells #[.int .i64 h0, .int .i64 h1, .int .i64 h2, .int .i64 h3, .int .i64 h4, .int .i64 h5, .int .i64 h6, .slice a1 ks.length c1, .slice a2 vs.length c2] 26)).alloc (.cells #[.slice a1 ks.length c1, .slice a2 vs.length c2] 24) = u := ⟨_, rfl⟩
  have BU : Hid (Below w.heap.size w u) := by rw [← hu]; exact two_boxes _ _ _
  have T0 : Hid (u.cell? ⟨w.heap.size + 1, 0, none⟩ = some (.slice a1 ks.length c1) ∧ u.cell? ⟨w.heap.size + 1, 1, none⟩ = some (.slice a2 vs.length c2)) := by
    have h := boxes_cells (w := w) (X := #[.int .i64 h0, .int .i64 h1, .int .i64 h2, .int .i64 h3, .int .i64 h4, .int .i64 h5, .int .i64 h6, .slice a1 ks.length c1, .slice a2 vs.length c2]) (Y := #[.slice a1 ks.length c1, .slice a2 vs.length c2]) (s := 26) (t := 24) (v := u) (by rw [hu]; exact Below.refl _ _)
    exact ⟨h.2 0 _ rfl, h.2 1 _ rfl⟩
  rw [hu]
  clear hu
  go_loopw [13] (fun i wr => ∃ k : Nat, k ≤ 2 ∧ i = .int .i64 k ∧ Below u.heap.size u wr ∧ (0 < k → ks.length ≤ 20 ∧ ∀ i, i < ks.length → (Pg.gc (Pg.nth ks i)).length ≤ 40) ∧ (1 < k → vs.length ≤ 20 ∧ ∀ i, i < vs.length → (Pg.gc (Pg.nth vs i)).length ≤ 40)) (fun i _ => 2 - (intOf i).toNat)
  case atStart => exact ⟨0, by omega, rfl, Below.refl _ _, fun h => by omega, fun h => by omega⟩
  case round =>
    obtain ⟨k, hk, rfl, hbel, p1, p2⟩ := hrel
    have HW : Hid (Below u.heap.size u wr) := hbel
    have P1 : Hid (0 < k → ks.length ≤ 20 ∧ ∀ i, i < ks.length → (Pg.gc (Pg.nth ks i)).length ≤ 40) := p1
    have P2 : Hid (1 < k → vs.length ≤ 20 ∧ ∀ i, i < vs.length → (Pg.gc (Pg.nth vs i)).length ≤ 40) := p2
    have t0 : wr.cell? ⟨w.heap.size + 1, 0, none⟩ = some (.slice a1 ks.length c1) := by rw [hbel.cell (p := ⟨w.heap.size + 1, 0, none⟩) (World.block_lt_of_cell? u _ T0.out.1)]; exact T0.out.1
    have t1 : wr.cell? ⟨w.heap.size + 1, 1, none⟩ = some (.slice a2 vs.length c2) := by rw [hbel.cell (p := ⟨w.heap.size + 1, 1, none⟩) (World.block_lt_of_cell? u _ T0.out.2)]; exact T0.out.2
    clear hbel p1 p2
    by_cases hk0 : k = 0
    · subst hk0
      by_cases hbig : 20 < ks.length
      · go_wp2
        go_ret
        refine ⟨ret_bool ?_, below_then BU.out HW.out⟩
        rw [← HQ.out]
        exact (Pg.smallB_no (by omega)).symm
      · have hd20 : decide (20 < (ks.length : Int)) = false := decide_eq_false (by omega)
        go_wp2
        go_loopw [22] (fun i wr' => ∃ j : Nat, j ≤ ks.length ∧ i = .int .i64 j ∧ Below u.heap.size u wr' ∧ ∀ i, i < j → (Pg.gc (Pg.nth ks i)).length ≤ 40) (fun i _ => ks.length - (intOf i).toNat)
        case atStart => exact ⟨0, Nat.zero_le _, rfl, HW.out, fun i hi => by omega⟩
        case round =>
          clear HW
          obtain ⟨j, hj, rfl, hbel, hin⟩ := hrel
          have HW : Hid (Below u.heap.size u wr) := hbel
          have HJ : Hid (∀ i, i < j → (Pg.gc (Pg.nth ks i)).length ≤ 40) := hin
          clear hbel hin
          by_cases hjl : j < ks.length
          · obtain ⟨b1, o1, rfl, hg1⟩ := HA.out.get hjl
            obtain ⟨x1, y1, G1⟩ := hg1 j hjl
            have hlt1 : b1 < wr.heap.size := by have h1 := G1.lt; have h2 := BU.out.size; have h3 := HW.out.size; omega
            obtain ⟨d0, d1, d2, _⟩ := (G1.keep BU.out).keep HW.out
            have HLN : Hid ((Pg.gc (Pg.nth ks j)).length ≤ maxLen) := (IK.out j hjl).2.2.2.2
            clear hg1 G1
            by_cases h40 : 40 < (Pg.gc (Pg.nth ks j)).length
            · go_wp2
              go_ret
              refine ⟨ret_bool ?_, below_then BU.out (HW.out.alloc HW.out.size _)⟩
              rw [← HQ.out]
              exact (Pg.smallB_far1 hjl h40).symm
            · go_wp2
              go_roundw
              case rel =>
                refine ⟨j + 1, by omega, by go_num, HW.out.alloc HW.out.size _, fun i hi => ?_⟩
                by_cases e : i = j
                · subst e; omega
                · exact HJ.out i (by omega)
              case measure => simp [intOf]; omega
          · go_wp2
            go_roundw
            case rel => exact ⟨1, by omega, by go_num, HW.out, fun _ => ⟨by omega, fun i hi => HJ.out i (by omega)⟩, fun h => by omega⟩
            case measure => simp [intOf]
    · by_cases hk1 : k = 1
      · subst hk1
        by_cases hbig : 20 < vs.length
        · go_wp2
          go_ret
          refine ⟨ret_bool ?_, below_then BU.out HW.out⟩
          rw [← HQ.out]
          exact (Pg.smallB_no (by omega)).symm
        · have hd20 : decide (20 < (vs.length : Int)) = false := decide_eq_false (by omega)
          go_wp2
          go_loopw [22] (fun i wr' => ∃ j : Nat, j ≤ vs.length ∧ i = .int .i64 j ∧ Below u.heap.size u wr' ∧ ∀ i, i < j → (Pg.gc (Pg.nth vs i)).length ≤ 40) (fun i _ => vs.length - (intOf i).toNat)
          case atStart => exact ⟨0, Nat.zero_le _, rfl, HW.out, fun i hi => by omega⟩
          case round =>
            clear HW
            obtain ⟨j, hj, rfl, hbel, hin⟩ := hrel
            have HW : Hid (Below u.heap.size u wr) := hbel
            have HJ : Hid (∀ i, i < j → (Pg.gc (Pg.nth vs i)).length ≤ 40) := hin
            clear hbel hin
            by_cases hjl : j < vs.length
            · obtain ⟨b1, o1, rfl, hg1⟩ := HB.out.get hjl
              obtain ⟨x1, y1, G1⟩ := hg1 j hjl
              have hlt1 : b1 < wr.heap.size := by have h1 := G1.lt; have h2 := BU.out.size; have h3 := HW.out.size; omega
              obtain ⟨d0, d1, d2, _⟩ := (G1.keep BU.out).keep HW.out
              have HLN : Hid ((Pg.gc (Pg.nth vs j)).length ≤ maxLen) := (IV.out j hjl).2.2.2.2
              clear hg1 G1
              by_cases h40 : 40 < (Pg.gc (Pg.nth vs j)).length
              · go_wp2
                go_ret
                refine ⟨ret_bool ?_, below_then BU.out (HW.out.alloc HW.out.size _)⟩
                rw [← HQ.out]
                exact (Pg.smallB_far2 hjl h40).symm
              · go_wp2
                go_roundw
                case rel =>
                  refine ⟨j + 1, by omega, by go_num, HW.out.alloc HW.out.size _, fun i hi => ?_⟩
                  by_cases e : i = j
                  · subst e; omega
                  · exact HJ.out i (by omega)
                case measure => simp [intOf]; omega
            · go_wp2
              go_roundw
              case rel => exact ⟨2, by omega, by go_num, HW.out, fun _ => P1.out (by omega), fun _ => ⟨by omega, fun i hi => HJ.out i (by omega)⟩⟩
              case measure => simp [intOf]
      · have e : k = 2 := by omega
        subst e
        go_wp2
        go_ret
        refine ⟨ret_bool ?_, below_then BU.out HW.out⟩
        rw [← HQ.out]
        exact (Pg.smallB_yes (P1.out (by omega)).1 (P1.out (by omega)).2 (P2.out (by omega)).1 (P2.out (by omega)).2).symm
end Go.Proofs.YtimkfkolkplpdaaGreat
