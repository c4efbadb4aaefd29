/- Contracts of layer 9: is a plan right, by the program and by the document. -/
import Derived.Test.YtfdmgnfeceoefaaDoorTrPlan
namespace Go.Proofs.YtfdmgnfeceoefaaDoor
set_option linter.unusedVariables false
open Go.RowKit
open Tr

theorem Tr.okP_no {ls : List (Int × Int)} {k : Nat} (h : k < ls.length) (hk : okP ls k = false) : allB ls = false := by
  cases e : allB ls
  · rfl
  · rw [(allB_iff ls).1 e k h] at hk; cases hk
theorem Tr.right_rng {g i : Int} {ls : List (Int × Int)} (h : rng g i = false) : right g i ls = 11 := by unfold right; rw [h]; rfl
theorem Tr.right_many {g i : Int} {ls : List (Int × Int)} (h : rng g i = true) (h2 : ls.length = 0 ∨ 4 < ls.length) : right g i ls = 12 := by unfold right; rw [h, if_pos rfl, if_pos h2]
theorem Tr.right_all {g i : Int} {ls : List (Int × Int)} (h : rng g i = true) (h2 : ¬ (ls.length = 0 ∨ 4 < ls.length)) (h3 : allB ls = true) : right g i ls = 0 := by unfold right; rw [h, if_pos rfl, if_neg h2, h3]; rfl
theorem Tr.right_bits {g i : Int} {ls : List (Int × Int)} (h : rng g i = true) (h2 : ¬ (ls.length = 0 ∨ 4 < ls.length)) (h3 : allB ls = false) : right g i ls = 20 := by unfold right; rw [h, if_pos rfl, if_neg h2, h3]; rfl

set_option maxHeartbeats 1600000 in
theorem right_any (g i : Int) (a : Option Addr) (c : Nat) (ls : List (Int × Int)) (e : Int) (he : right g i ls = e) (w : World) (hp : Ps w a ls) (hl : ls.length ≤ maxLen) :
    Calls Tryd.prog 12 #[.agg #[.int .i64 g, .int .i64 i, .slice a ls.length c]] w fun r w' => r = .returned (.int .i64 e) ∧ Below w.heap.size w w' := by
  unfold maxLen at hl
  have HE : Hid (right g i ls = e) := he
  have HP : Hid (Ps w a ls) := hp
  clear he hp
  obtain ⟨q, hq⟩ : ∃ q, rng g i = q := ⟨_, rfl⟩
  have HQ : Hid (rng g i = q) := hq
  clear hq
  cases q
  · go_enter Tryd.func12, Tryd.ntmps12
    go_wp2_with (go_at_call 24; refine (ranged_any g i _ false HQ.out _).mono ?_; rintro r w1 ⟨rfl, hb⟩; have B1 : Hid (Below w.heap.size w w1) := ((Below.refl _ _).alloc (Nat.le_refl _) _).trans (hb.mono (by simp)); clear hb)
    go_ret
    exact ⟨ret_num (show (11 : Int) = e by rw [← HE.out, right_rng HQ.out]), B1.out⟩
  · by_cases hm : ls.length = 0 ∨ 4 < ls.length
    · have HM : Hid (ls.length = 0 ∨ 4 < ls.length) := hm
      clear hm
      go_enter Tryd.func12, Tryd.ntmps12
      go_wp2_with (go_at_call 24; refine (ranged_any g i _ true HQ.out _).mono ?_; rintro r w1 ⟨rfl, hb⟩; have B1 : Hid (Below w.heap.size w w1) := ((Below.refl _ _).alloc (Nat.le_refl _) _).trans (hb.mono (by simp)); have c2 : w1.cell? ⟨w.heap.size, 2, none⟩ = some (.slice a ls.length c) := (by rw [hb.cell (p := ⟨w.heap.size, 2, none⟩) (by simp)]; simp); clear hb)
      refine (within_any (ls.length : Int) 1 4 false (by have := HM.out; simp; omega) _).mono ?_
      rintro r w' ⟨rfl, rfl⟩
      go_wp2
      go_ret
      exact ⟨ret_num (show (12 : Int) = e by rw [← HE.out, right_many HQ.out HM.out]), B1.out⟩
    · have h0 : 0 < ls.length := by omega
      have h4 : ls.length ≤ 4 := by omega
      have HM : Hid (¬ (ls.length = 0 ∨ 4 < ls.length)) := hm
      clear hm
      obtain ⟨b, o, rfl, hc⟩ := HP.out.get h0
      have HC : Hid (∀ j, j < ls.length → w.cell? ⟨b, o + j * 2, none⟩ = some (.int .i64 (fst ls j)) ∧ w.cell? ⟨b, o + j * 2 + 1, none⟩ = some (.int .i64 (snd ls j))) := hc
      clear hc
      go_enter Tryd.func12, Tryd.ntmps12
      go_wp2_with (go_at_call 24; refine (ranged_any g i _ true HQ.out _).mono ?_; rintro r w1 ⟨rfl, hb⟩; have B1 : Hid (Below w.heap.size w w1) := ((Below.refl _ _).alloc (Nat.le_refl _) _).trans (hb.mono (by simp)); have c2 : w1.cell? ⟨w.heap.size, 2, none⟩ = some (.slice (some ⟨b, o, none⟩) ls.length c) := (by rw [hb.cell (p := ⟨w.heap.size, 2, none⟩) (by simp)]; simp); clear hb)
      refine (within_any (ls.length : Int) 1 4 true (by simp; omega) _).mono ?_
      rintro r w' ⟨rfl, hw⟩
      have hw := hw.symm
      subst hw
      go_wp2
      go_loopw [16] (fun i' wr => ∃ k : Nat, k ≤ ls.length ∧ i' = .int .i64 k ∧ Hid (∀ j, j < k → okP ls j = true) ∧ Hid (Below w.heap.size w wr)) (fun i' _ => ls.length - (intOf i').toNat)
      case atStart => exact ⟨0, Nat.zero_le _, rfl, fun j hj => by omega, B1.out⟩
      case round =>
        obtain ⟨k, hk, rfl, HK, BK⟩ := hrel
        by_cases hlt : k < ls.length
        · have d0 := (HC.out k hlt).1
          have d1 := (HC.out k hlt).2
          have d0 : wr.cell? ⟨b, o + k * 2, none⟩ = some (.int .i64 (fst ls k)) := by rw [BK.out.cell (p := ⟨b, o + k * 2, none⟩) (World.block_lt_of_cell? w _ d0)]; exact d0
          have d1 : wr.cell? ⟨b, o + k * 2 + 1, none⟩ = some (.int .i64 (snd ls k)) := by rw [BK.out.cell (p := ⟨b, o + k * 2 + 1, none⟩) (World.block_lt_of_cell? w _ d1)]; exact d1
          obtain ⟨q1, e1⟩ : ∃ q1, okB (fst ls k) = q1 := ⟨_, rfl⟩
          obtain ⟨q2, e2⟩ : ∃ q2, okB (snd ls k) = q2 := ⟨_, rfl⟩
          have E1 : Hid (okB (fst ls k) = q1) := e1
          have E2 : Hid (okB (snd ls k) = q2) := e2
          have E3 : Hid (okP ls k = (q1 && q2)) := by show okP ls k = _; unfold okP; rw [e1, e2]
          clear e1 e2
          cases q1
          · go_wp2_with (go_at_call 26; refine (bits_any _ false E1.out _).mono ?_; rintro r w' ⟨rfl, rfl⟩)
            go_ret
            exact ⟨ret_num (show (20 : Int) = e by rw [← HE.out, right_bits HQ.out HM.out (okP_no hlt E3.out)]), BK.out.alloc BK.out.size _⟩
          · cases q2
            · go_wp2_with (first | (go_at_call_of 26 (fst ls k); refine (bits_any _ true E1.out _).mono ?_; rintro r w' ⟨rfl, rfl⟩) | (go_at_call 26; refine (bits_any _ false E2.out _).mono ?_; rintro r w' ⟨rfl, rfl⟩))
              go_ret
              exact ⟨ret_num (show (20 : Int) = e by rw [← HE.out, right_bits HQ.out HM.out (okP_no hlt E3.out)]), BK.out.alloc BK.out.size _⟩
            · go_wp2_with (first | (go_at_call_of 26 (fst ls k); refine (bits_any _ true E1.out _).mono ?_; rintro r w' ⟨rfl, rfl⟩) | (go_at_call 26; refine (bits_any _ true E2.out _).mono ?_; rintro r w' ⟨rfl, rfl⟩))
              go_roundw
              case rel => exact ⟨k + 1, by omega, by go_num, fun j hj => by rcases Nat.lt_or_ge j k with h | h; exact HK.out j h; rw [show j = k by omega]; exact E3.out, BK.out.alloc BK.out.size _⟩
              case measure => simp [intOf]; omega
        · have e : k = ls.length := by omega
          subst e
          go_wp2
          go_ret
          exact ⟨ret_num (show (0 : Int) = e by rw [← HE.out, right_all HQ.out HM.out ((allB_iff ls).2 HK.out)]), BK.out⟩
end Go.Proofs.YtfdmgnfeceoefaaDoor
