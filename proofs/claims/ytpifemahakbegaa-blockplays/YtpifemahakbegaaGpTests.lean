/- Contracts of package group: Right and Equal. -/
import Derived.Test.YtpifemahakbegaaGpMakes
namespace Go.Proofs.Ytpifemahakbegaa
set_option linter.unusedVariables false
open Go.RowKit

theorem right_bad (z sc : Int) (a : Option Addr) (n cp : Nat) (b e : Int) (he : Gp.many n b = e) (h0 : ¬ e = 0) (hn : n ≤ maxLen) (w : World) :
    Calls Try.prog 60 #[.agg #[.int .i32 z, .int .u32 sc, .slice a n cp], .int .i64 b] w fun r w' => r = .returned (.int .i64 e) ∧ Below w.heap.size w w' := by
  have g0 : (e != 0) = true := by simp [h0]
  have HE : Hid (Gp.many n b = e) := he
  have HN : Hid (n ≤ maxLen) := hn
  clear he h0 hn
  go_enter Try.func60, Try.ntmps60
  go_wp2_with (go_at_call 62; refine (countG_any n b e HE.out HN.out _).mono ?_; rintro r w' ⟨rfl, rfl⟩)
  go_ret
  exact ⟨rfl, box_below _ _⟩

set_option maxHeartbeats 800000 in
theorem right_any (z sc : Int) (a : Option Addr) (cp b s : Nat) (c : List Int) (e : Int) (w : World) (ha : Lst .i64 w a c) (hst : Gp.St b s) (h0 : 0 < c.length) (hl : c.length ≤ 256) (hs1 : 0 ≤ sc) (hs2 : sc ≤ 4294967295) (he : Gp.right s sc c = e) :
    Calls Try.prog 60 #[.agg #[.int .i32 z, .int .u32 sc, .slice a c.length cp], .int .i64 b] w fun r w' => r = .returned (.int .i64 e) ∧ Below w.heap.size w w' := by
  have HM : Hid (Gp.many c.length (b : Int) = 0) := Gp.many_ok hst h0 hl
  have HN : Hid (c.length ≤ maxLen) := by show c.length ≤ maxLen; unfold maxLen; omega
  have HA : Hid (Lst .i64 w a c) := ha
  have HS : Hid (Gp.St b s) := hst
  have HE : Hid (Gp.right s sc c = e) := he
  have bs := hst.bd
  clear ha hst he
  by_cases hbig : 1431655765 < sc
  · have ee : e = 21 := by rw [← HE.out, Gp.right_big hbig]
    subst ee
    go_enter Try.func60, Try.ntmps60
    go_wp2_with (go_at_call 62; refine (countG_any _ _ 0 HM.out HN.out _).mono ?_; rintro r w' ⟨rfl, rfl⟩)
    go_ret
    exact ⟨rfl, box_below _ _⟩
  · by_cases hnil : sc = 0 ∧ Gp.nils c = false
    · obtain ⟨rfl, hn⟩ := hnil
      have ee : e = 21 := by rw [← HE.out, Gp.right_nil rfl hn]
      subst ee
      have HQ : Hid (Gp.nils c = !true) := hn
      clear hn
      go_enter Try.func60, Try.ntmps60
      go_wp2_with (first
        | (go_at_call 62; refine (countG_any _ _ 0 HM.out HN.out _).mono ?_; rintro r w' ⟨rfl, rfl⟩)
        | (go_at_call 68; refine (contains_any _ _ c _ (HA.out.keep (box_below _ _)) HN.out true HQ.out).mono ?_; rintro r w' ⟨rfl, rfl⟩))
      go_ret
      exact ⟨rfl, box_below _ _⟩
    · have HQ : Hid (sc = 0 → Gp.nils c = true) := by
        show sc = 0 → Gp.nils c = true
        intro e0
        cases hn : Gp.nils c
        · exact absurd ⟨e0, hn⟩ hnil
        · rfl
      clear hnil
      have hlast : ∀ q, (sc == 0) = q → Calls Try.prog 60 #[.agg #[.int .i32 z, .int .u32 sc, .slice a c.length cp], .int .i64 b] w fun r w' => r = .returned (.int .i64 e) ∧ Below w.heap.size w w' := by
        intro q hq
        cases q
        all_goals
          go_enter Try.func60, Try.ntmps60
          go_wp2_with (first
            | (go_at_call 62; refine (countG_any _ _ 0 HM.out HN.out _).mono ?_; rintro r w' ⟨rfl, rfl⟩)
            | (go_at_call 68; refine (contains_any _ _ c _ (HA.out.keep (box_below _ _)) HN.out false (HQ.out (by simpa using hq))).mono ?_; rintro r w' ⟨rfl, rfl⟩))
          go_loop [32] (fun i => ∃ k : Nat, k ≤ c.length ∧ i = .int .i64 k ∧ ∀ j, j < k → 0 ≤ Ls.nth c j ∧ Ls.nth c j ≤ (s : Int)) (fun i => c.length - (intOf i).toNat)
          case atStart => exact ⟨0, Nat.zero_le _, rfl, fun j hj => by omega⟩
          case round =>
            obtain ⟨k, hk, rfl, hall⟩ := hrel
            have HL : Hid (∀ j, j < k → 0 ≤ Ls.nth c j ∧ Ls.nth c j ≤ (s : Int)) := hall
            clear hall
            by_cases hlt : k < c.length
            · obtain ⟨b1, o1, rfl, hc1⟩ := (HA.out.keep (box_below w (.cells #[.int .i32 z, .int .u32 sc, .slice a c.length cp] 114))).get hlt
              have hck := hc1 k hlt
              clear hc1
              by_cases c1 : Ls.nth c k < 0
              · go_wp2_with (go_at_call 70; refine (greatest_any _ _ HS.out _).mono ?_; rintro r w' ⟨rfl, rfl⟩)
                go_ret
                refine ⟨ret_num ?_, box_below _ _⟩
                rw [← HE.out, Gp.right_no (show ¬ 1431655765 < sc by omega) HQ.out (Gp.fits_no (s := (s : Int)) hlt (by omega))]
              · by_cases c2 : (s : Int) < Ls.nth c k
                · go_wp2_with (go_at_call 70; refine (greatest_any _ _ HS.out _).mono ?_; rintro r w' ⟨rfl, rfl⟩)
                  go_ret
                  refine ⟨ret_num ?_, box_below _ _⟩
                  rw [← HE.out, Gp.right_no (show ¬ 1431655765 < sc by omega) HQ.out (Gp.fits_no (s := (s : Int)) hlt (by omega))]
                · go_wp2_with (go_at_call 70; refine (greatest_any _ _ HS.out _).mono ?_; rintro r w' ⟨rfl, rfl⟩)
                  go_round
                  case rel =>
                    refine ⟨k + 1, by omega, by go_num, fun j hj => ?_⟩
                    by_cases e : j = k
                    · subst e; omega
                    · exact HL.out j (by omega)
                  case measure => simp [intOf]; omega
            · go_wp2
              go_ret
              refine ⟨ret_num ?_, box_below _ _⟩
              rw [← HE.out, Gp.right_yes (show ¬ 1431655765 < sc by omega) HQ.out (Gp.fits_yes (fun i hi => HL.out i (by omega)))]
      exact hlast _ rfl

/-- Two groups, held against one another. -/
def Gp.eqG (z1 s1 : Int) (x : List Int) (z2 s2 : Int) (y : List Int) : Bool := decide (z1 = z2 ∧ s1 = s2 ∧ x = y)
theorem Gp.eqG_zero {z1 s1 z2 s2 : Int} {x y : List Int} (h : ¬ z1 = z2) : Gp.eqG z1 s1 x z2 s2 y = false := by unfold Gp.eqG; simp [h]
theorem Gp.eqG_scale {z1 s1 z2 s2 : Int} {x y : List Int} (h : ¬ s1 = s2) : Gp.eqG z1 s1 x z2 s2 y = false := by unfold Gp.eqG; simp [h]
theorem Gp.eqG_codes {z1 s1 z2 s2 : Int} {x y : List Int} (h1 : z1 = z2) (h2 : s1 = s2) : Gp.eqG z1 s1 x z2 s2 y = decide (x = y) := by unfold Gp.eqG; simp [h1, h2]
theorem Gp.eqG_comm (z1 s1 z2 s2 : Int) (x y : List Int) : Gp.eqG z1 s1 x z2 s2 y = Gp.eqG z2 s2 y z1 s1 x := by
  unfold Gp.eqG
  rw [Bool.eq_iff_iff]
  simp only [decide_eq_true_eq]
  exact ⟨fun ⟨a, b, c⟩ => ⟨a.symm, b.symm, c.symm⟩, fun ⟨a, b, c⟩ => ⟨a.symm, b.symm, c.symm⟩⟩
theorem Gp.eqG_self (z s : Int) (x : List Int) : Gp.eqG z s x z s x = true := by unfold Gp.eqG; simp

theorem two_boxes (w : World) (o p : Obj) : Below w.heap.size w ((w.alloc o).alloc p) := ((Below.refl _ _).alloc (Nat.le_refl _) _).alloc (by simp) _
end Go.Proofs.Ytpifemahakbegaa
