/- Contracts of the document's own answers of layer 7. -/
import Derived.Test.YtimkfkolkplpdaaGreatGpTests
namespace Go.Proofs.YtimkfkolkplpdaaGreat
set_option linter.unusedVariables false
open Go.RowKit
attribute [local go_sem ↓] Go.wp_at_zero Go.wp_at_succ

theorem refOne_any (z sc c : Int) (a : Option Addr) (n cp : Nat) (hz1 : -2147483648 ≤ z) (hz2 : z ≤ 2147483647) (hs1 : 0 ≤ sc) (hs2 : sc ≤ 4294967295) (hc1 : 0 ≤ c) (hc2 : c ≤ 255) (w : World) :
    Calls Tryz.prog 67 #[.agg #[.int .i32 z, .int .u32 sc, .slice a n cp], .int .i64 c] w fun e w' => e = .returned (.int .i32 (Gp.mean z sc c)) ∧ Below w.heap.size w w' := by
  have hm := mul_bd hc1 hc2 hs1 hs2
  go_enter Tryz.func67, Tryz.ntmps67
  go_wp2_with (go_at_call 95; refine (refWide_any _ _).mono ?_; rintro e w' ⟨rfl, rfl⟩)
  go_ret
  exact ⟨rfl, box_below _ _⟩

set_option maxHeartbeats 800000 in
theorem refSameG_any (z1 s1 z2 s2 : Int) (a1 a2 : Option Addr) (c1 c2 : Nat) (x y : List Int) (w : World) (ha : Lst .i64 w a1 x) (hb : Lst .i64 w a2 y) (hl : x.length ≤ maxLen) (q : Bool) (hq : Gp.eqG z1 s1 x z2 s2 y = q) :
    Calls Tryz.prog 65 #[.agg #[.int .i32 z1, .int .u32 s1, .slice a1 x.length c1], .agg #[.int .i32 z2, .int .u32 s2, .slice a2 y.length c2]] w fun r w' => r = .returned (.bool q) ∧ Below w.heap.size w w' := by
  subst hq
  unfold maxLen at hl
  have HA : Hid (Lst .i64 w a1 x) := ha
  have HB : Hid (Lst .i64 w a2 y) := hb
  clear ha hb
  by_cases hz : z1 = z2
  · by_cases hs : s1 = s2
    · rw [Gp.eqG_codes hz hs]
      subst hz hs
      obtain ⟨q, hq⟩ : ∃ q, decide (x = y) = q := ⟨_, rfl⟩
      rw [hq]
      have HQ : Hid (decide (x = y) = q) := hq
      clear hq
      by_cases hn : x.length = y.length
      · have g : ((x.length : Int) != (y.length : Int)) = false := by rw [hn]; simp
        have HN : Hid (x.length = y.length) := hn
        have hn1 : x.length ≤ y.length := by omega
        have hn2 : y.length ≤ x.length := by omega
        clear hn
        go_enter Tryz.func65, Tryz.ntmps65
        go_wp2
        go_loopw [5] (fun i wr => ∃ k n : Nat, k ≤ x.length ∧ i = .int .i64 k ∧ wr = ((w.alloc (.cells #[.int .i32 z1, .int .u32 s1, .slice a1 x.length c1] 72)).alloc (.cells #[.int .i32 z1, .int .u32 s1, .slice a2 y.length c2] 72)).drewN n ∧ ∀ j, j < k → Ls.nth x j = Ls.nth y j) (fun i _ => x.length - (intOf i).toNat)
        case atStart => exact ⟨0, 0, Nat.zero_le _, rfl, rfl, fun j hj => by omega⟩
        case round =>
          obtain ⟨k, n, hk, rfl, rfl, hall⟩ := hrel
          have HL : Hid (∀ j, j < k → Ls.nth x j = Ls.nth y j) := hall
          clear hall
          by_cases hlt : k < x.length
          · obtain ⟨b1, o1, rfl, hc1⟩ := (HA.out.keep (two_boxes w (.cells #[.int .i32 z1, .int .u32 s1, .slice a1 x.length c1] 72) (.cells #[.int .i32 z1, .int .u32 s1, .slice a2 y.length c2] 72))).get hlt
            obtain ⟨b2, o2, rfl, hc2⟩ := (HB.out.keep (two_boxes w (.cells #[.int .i32 z1, .int .u32 s1, .slice (some ⟨b1, o1, none⟩) x.length c1] 72) (.cells #[.int .i32 z1, .int .u32 s1, .slice a2 y.length c2] 72))).get (show k < y.length by omega)
            have hck1 := hc1 k hlt
            have hck2 := hc2 k (by omega)
            clear hc1 hc2
            have e0 : (0 : Int) ≤ (k : Int) := by omega
            have e1 : (k : Int) < (x.length : Int) := by omega
            have e2 : (k : Int) < (y.length : Int) := by omega
            by_cases hz : Ls.nth x k = Ls.nth y k
            · have hz' : (Ls.nth x k != Ls.nth y k) = false := by rw [hz]; simp
              have HZ : Hid (Ls.nth x k = Ls.nth y k) := hz
              clear hz
              go_wp2
              go_quiet (fail)
              go_wp2
              go_roundw
              case rel =>
                refine ⟨k + 1, _, by omega, by go_num, rfl, fun j hj => ?_⟩
                by_cases e : j = k
                · subst e; exact HZ.out
                · exact HL.out j (by omega)
              case measure => simp [intOf]; omega
            · have hz' : (Ls.nth x k != Ls.nth y k) = true := by simp [hz]
              go_wp2
              go_quiet (fail)
              go_wp2
              go_ret
              refine ⟨ret_bool ?_, below_drewN (below_drewN (two_boxes _ _ _) _) _⟩
              rw [← HQ.out]
              exact (decide_eq_false (fun e => hz (by rw [e]))).symm
          · go_wp2
            go_ret
            refine ⟨ret_bool ?_, below_drewN (two_boxes _ _ _) _⟩
            rw [← HQ.out]
            exact (decide_eq_true (Ls.ext_nth HN.out (fun i hi => HL.out i (by omega)))).symm
      · have g : ((x.length : Int) != (y.length : Int)) = true := by simp; omega
        have e : q = false := by rw [← HQ.out]; exact decide_eq_false (fun e => hn (by rw [e]))
        subst e
        clear hn
        go_enter Tryz.func65, Tryz.ntmps65
        go_wp2
        go_ret
        exact ⟨rfl, two_boxes _ _ _⟩
    · rw [Gp.eqG_scale hs]
      subst hz
      have g : (s1 != s2) = true := by simp [hs]
      go_enter Tryz.func65, Tryz.ntmps65
      go_wp2
      go_ret
      exact ⟨rfl, two_boxes _ _ _⟩
  · rw [Gp.eqG_zero hz]
    have g : (z1 != z2) = true := by simp [hz]
    go_enter Tryz.func65, Tryz.ntmps65
    go_wp2
    go_ret
    exact ⟨rfl, two_boxes _ _ _⟩
end Go.Proofs.YtimkfkolkplpdaaGreat
