/- Contracts of layer 9: are two plans one, by the program and by the document; the document's Right. -/
import Derived.Test.YtfdmgnfeceoefaaDoorTrSame
namespace Go.Proofs.YtfdmgnfeceoefaaDoor
set_option linter.unusedVariables false
open Go.RowKit
open Tr

namespace Tr
/-- All of both plans is the same. -/
def same (g i : Int) (ls : List (Int × Int)) (g' i' : Int) (ms : List (Int × Int)) : Bool := decide (g = g' ∧ i = i' ∧ ls = ms)
theorem same_comm (g i : Int) (ls : List (Int × Int)) (g' i' : Int) (ms : List (Int × Int)) : same g' i' ms g i ls = same g i ls g' i' ms := by
  unfold same
  congr 1
  exact propext ⟨fun h => ⟨h.1.symm, h.2.1.symm, h.2.2.symm⟩, fun h => ⟨h.1.symm, h.2.1.symm, h.2.2.symm⟩⟩
end Tr

set_option maxHeartbeats 1600000 in
theorem equal_any (g i g' i' : Int) (a1 a2 : Option Addr) (c1 c2 : Nat) (ls ms : List (Int × Int)) (q : Bool) (hq : same g i ls g' i' ms = q) (w : World) (h1 : Ps w a1 ls) (h2 : Ps w a2 ms) (hl : ls.length ≤ maxLen) :
    Calls Tryd.prog 15 #[.agg #[.int .i64 g, .int .i64 i, .slice a1 ls.length c1], .agg #[.int .i64 g', .int .i64 i', .slice a2 ms.length c2]] w fun e w' => e = .returned (.bool q) ∧ Below w.heap.size w w' := by
  have H1 : Hid (Ps w a1 ls) := h1
  have H2 : Hid (Ps w a2 ms) := h2
  have HQ : Hid (same g i ls g' i' ms = q) := hq
  clear h1 h2 hq
  by_cases e1 : g = g'
  · subst e1
    by_cases e2 : i = i'
    · subst e2
      obtain ⟨p, hp⟩ : ∃ p, decide (ls = ms) = p := ⟨_, rfl⟩
      have HP : Hid (decide (ls = ms) = p) := hp
      clear hp
      go_enter Tryd.func15, Tryd.ntmps15
      go_wp2_with (go_at_call 29; refine (slicesEqual_any a1 a2 c1 c2 ls ms p HP.out _ (H1.out.keep ((box_over _ _).trans ((box_over _ _).mono (by simp)))) (H2.out.keep ((box_over _ _).trans ((box_over _ _).mono (by simp)))) hl).mono ?_; rintro e w' ⟨rfl, n, rfl⟩)
      go_ret
      refine ⟨ret_bool (show p = q from ?_), ?_⟩
      · rw [← HQ.out, ← HP.out]; unfold same; simp
      · exact ((box_over _ _).trans ((box_over _ _).mono (by simp))).trans ((below_draws _ _).mono (by simp; omega))
    · have e3 : (i == i') = false := beq_eq_false_iff_ne.2 e2
      have H3 : Hid (false = q) := by show false = q; rw [← HQ.out]; unfold same; simp [e2]
      clear e2
      go_enter Tryd.func15, Tryd.ntmps15
      go_wp2
      go_ret
      exact ⟨ret_bool H3.out, (box_over _ _).trans ((box_over _ _).mono (by simp))⟩
  · have e3 : (g == g') = false := beq_eq_false_iff_ne.2 e1
    have H3 : Hid (false = q) := by show false = q; rw [← HQ.out]; unfold same; simp [e1]
    clear e1
    go_enter Tryd.func15, Tryd.ntmps15
    go_wp2
    go_ret
    exact ⟨ret_bool H3.out, (box_over _ _).trans ((box_over _ _).mono (by simp))⟩

set_option maxHeartbeats 1600000 in
theorem refSame_any (g i g' i' : Int) (a1 a2 : Option Addr) (c1 c2 : Nat) (ls ms : List (Int × Int)) (q : Bool) (hq : same g i ls g' i' ms = q) (w : World) (h1 : Ps w a1 ls) (h2 : Ps w a2 ms) (hl : ls.length ≤ maxLen) :
    Calls Tryd.prog 16 #[.agg #[.int .i64 g, .int .i64 i, .slice a1 ls.length c1], .agg #[.int .i64 g', .int .i64 i', .slice a2 ms.length c2]] w fun e w' => e = .returned (.bool q) ∧ Below w.heap.size w w' := by
  unfold maxLen at hl
  have H1 : Hid (Ps w a1 ls) := h1
  have H2 : Hid (Ps w a2 ms) := h2
  have HQ : Hid (same g i ls g' i' ms = q) := hq
  clear h1 h2 hq
  by_cases e1 : g = g'
  · subst e1
    by_cases e2 : i = i'
    · subst e2
      by_cases hn : ls.length = ms.length
      · have gn : ((ls.length : Int) != (ms.length : Int)) = false := by rw [hn]; simp
        have HN : Hid (ls.length = ms.length) := hn
        have hn1 : ls.length ≤ ms.length := by omega
        have hn2 : ms.length ≤ ls.length := by omega
        clear hn
        go_enter Tryd.func16, Tryd.ntmps16
        go_wp2
        go_loopw [5] (fun k' wr => ∃ k n : Nat, k ≤ ls.length ∧ k' = .int .i64 k ∧ wr = ((w.alloc (.cells #[.int .i64 g, .int .i64 i, .slice a1 ls.length c1] 32)).alloc (.cells #[.int .i64 g, .int .i64 i, .slice a2 ms.length c2] 32)).drewN n ∧ Hid (∀ j, j < k → fst ls j = fst ms j ∧ snd ls j = snd ms j)) (fun k' _ => ls.length - (intOf k').toNat)
        case atStart => exact ⟨0, 0, Nat.zero_le _, rfl, rfl, fun j hj => by omega⟩
        case round =>
          obtain ⟨k, n, hk, rfl, rfl, HK⟩ := hrel
          by_cases hlt : k < ls.length
          · obtain ⟨b1, o1, rfl, hc1⟩ := H1.out.get (by omega)
            obtain ⟨b2, o2, rfl, hc2⟩ := H2.out.get (by omega)
            have d0 := (hc1 k hlt).1
            have d1 := (hc1 k hlt).2
            have e0 := (hc2 k (by omega)).1
            have e1 := (hc2 k (by omega)).2
            have l1 : b1 < w.heap.size := World.block_lt_of_cell? w _ d0
            have l2 : b2 < w.heap.size := World.block_lt_of_cell? w _ e0
            have l3 : b1 < w.heap.size + 1 := by omega
            have l4 : b2 < w.heap.size + 1 := by omega
            have hlt2 : k < ms.length := by omega
            clear hc1 hc2
            obtain ⟨p, hp⟩ : ∃ p, (fst ls k == fst ms k && snd ls k == snd ms k) = p := ⟨_, rfl⟩
            have HP : Hid ((fst ls k == fst ms k && snd ls k == snd ms k) = p) := hp
            have heq : ∀ u : World, (Op.equalIn 10000 51 (.agg #[.int .i64 (fst ls k), .int .i64 (snd ls k)]) (.agg #[.int .i64 (fst ms k), .int .i64 (snd ms k)])).run Tryd.prog u = .ok p u := fun u => eqPair _ _ _ _ p hp u
            clear hp
            cases p
            · go_wp2
              go_quiet (fail)
              go_wp2
              go_ret
              refine ⟨ret_bool (show false = q from ?_), ?_⟩
              · rw [← HQ.out]
                symm
                apply decide_eq_false
                intro e
                have := HP.out
                rw [e.2.2] at this
                simp at this
              · exact (((box_over _ _).trans ((box_over _ _).mono (by simp))).trans ((below_draws _ _).mono (by simp; omega))).trans ((below_draws _ _).mono (by simp; omega))
            · go_wp2
              go_quiet (fail)
              go_wp2
              go_roundw
              case rel => exact ⟨k + 1, _, by omega, by go_num, by first | rfl | exact World.drewN_drewN _ _ _, fun j hj => by rcases Nat.lt_or_ge j k with h | h; exact HK.out j h; rw [show j = k by omega]; exact Tr.two HP.out⟩
              case measure => simp [intOf]; omega
          · have e : k = ls.length := by omega
            subst e
            go_wp2
            go_ret
            refine ⟨ret_bool (show true = q from ?_), ?_⟩
            · rw [← HQ.out]
              symm
              exact decide_eq_true ⟨rfl, rfl, pairs_ext HN.out HK.out⟩
            · exact ((box_over _ _).trans ((box_over _ _).mono (by simp))).trans ((below_draws _ _).mono (by simp; omega))
      · have gn : ((ls.length : Int) != (ms.length : Int)) = true := by simp; omega
        have H3 : Hid (false = q) := by show false = q; rw [← HQ.out]; symm; exact decide_eq_false (fun e => hn (by rw [e.2.2]))
        clear hn
        go_enter Tryd.func16, Tryd.ntmps16
        go_wp2
        go_ret
        exact ⟨ret_bool H3.out, (box_over _ _).trans ((box_over _ _).mono (by simp))⟩
    · have e3 : (i != i') = true := by simp [e2]
      have H3 : Hid (false = q) := by show false = q; rw [← HQ.out]; unfold same; simp [e2]
      clear e2
      go_enter Tryd.func16, Tryd.ntmps16
      go_wp2
      go_ret
      exact ⟨ret_bool H3.out, (box_over _ _).trans ((box_over _ _).mono (by simp))⟩
  · have e3 : (g != g') = true := by simp [e1]
    have H3 : Hid (false = q) := by show false = q; rw [← HQ.out]; unfold same; simp [e1]
    clear e1
    go_enter Tryd.func16, Tryd.ntmps16
    go_wp2
    go_ret
    exact ⟨ret_bool H3.out, (box_over _ _).trans ((box_over _ _).mono (by simp))⟩

set_option maxHeartbeats 1600000 in
theorem refRight_any (g i : Int) (a : Option Addr) (c : Nat) (ls : List (Int × Int)) (e : Int) (he : right g i ls = e) (w : World) (hp : Ps w a ls) (hl : ls.length ≤ maxLen) :
    Calls Tryd.prog 10 #[.agg #[.int .i64 g, .int .i64 i, .slice a ls.length c]] w fun r w' => r = .returned (.int .i64 e) ∧ Below w.heap.size w w' := by
  unfold maxLen at hl
  have HE : Hid (right g i ls = e) := he
  have HP : Hid (Ps w a ls) := hp
  clear he hp
  by_cases hr : rng g i = true
  · have hb := hr
    simp [rng] at hb
    obtain ⟨⟨⟨r1, r2⟩, r3⟩, r4⟩ := hb
    have HQ : Hid (rng g i = true) := hr
    clear hr
    by_cases hm : ls.length = 0 ∨ 4 < ls.length
    · have H3 : Hid ((12 : Int) = e) := by show _ = _; rw [← HE.out, right_many HQ.out hm]
      by_cases h0 : ls.length < 1
      · have g0 : decide ((ls.length : Int) < 1) = true := decide_eq_true (by omega)
        clear hm
        go_enter Tryd.func10, Tryd.ntmps10
        go_wp2
        go_ret
        exact ⟨ret_num H3.out, box_over _ _⟩
      · have h4 : 4 < ls.length := by omega
        have h0' : 1 ≤ ls.length := by omega
        clear hm h0
        go_enter Tryd.func10, Tryd.ntmps10
        go_wp2
        go_ret
        exact ⟨ret_num H3.out, box_over _ _⟩
    · have HM : Hid (¬ (ls.length = 0 ∨ 4 < ls.length)) := hm
      have h0 : 1 ≤ ls.length := by omega
      have h4 : ls.length ≤ 4 := by omega
      clear hm
      obtain ⟨b, o, rfl, hc⟩ := HP.out.get h0
      have HC : Hid (∀ j, j < ls.length → w.cell? ⟨b, o + j * 2, none⟩ = some (.int .i64 (fst ls j)) ∧ w.cell? ⟨b, o + j * 2 + 1, none⟩ = some (.int .i64 (snd ls j))) := hc
      clear hc
      go_enter Tryd.func10, Tryd.ntmps10
      go_wp2
      go_loop [3] (fun k' => ∃ k : Nat, k ≤ ls.length ∧ k' = .int .i64 k ∧ Hid (∀ j, j < k → okP ls j = true)) (fun k' => ls.length - (intOf k').toNat)
      case atStart => exact ⟨0, Nat.zero_le _, rfl, fun j hj => by omega⟩
      case round =>
        obtain ⟨k, hk, rfl, HK⟩ := hrel
        by_cases hlt : k < ls.length
        · have d0 := (HC.out k hlt).1
          have d1 := (HC.out k hlt).2
          have hbl : b < w.heap.size := World.block_lt_of_cell? w _ d0
          obtain ⟨q1, e1⟩ : ∃ q1, okB (fst ls k) = q1 := ⟨_, rfl⟩
          obtain ⟨q2, e2⟩ : ∃ q2, okB (snd ls k) = q2 := ⟨_, rfl⟩
          have E1 : Hid (okB (fst ls k) = q1) := e1
          have E2 : Hid (okB (snd ls k) = q2) := e2
          have E3 : Hid (okP ls k = (q1 && q2)) := by show okP ls k = _; unfold okP; rw [e1, e2]
          clear e1 e2
          cases q1
          · go_wp2_with (go_at_call 23; refine (refBits_any _ false E1.out _).mono ?_; rintro r w' ⟨rfl, rfl⟩)
            go_ret
            exact ⟨ret_num (show (20 : Int) = e by rw [← HE.out, right_bits HQ.out HM.out (okP_no hlt E3.out)]), box_over _ _⟩
          · cases q2
            · go_wp2_with (first | (go_at_call_of 23 (fst ls k); refine (refBits_any _ true E1.out _).mono ?_; rintro r w' ⟨rfl, rfl⟩) | (go_at_call 23; refine (refBits_any _ false E2.out _).mono ?_; rintro r w' ⟨rfl, rfl⟩))
              go_ret
              exact ⟨ret_num (show (20 : Int) = e by rw [← HE.out, right_bits HQ.out HM.out (okP_no hlt E3.out)]), box_over _ _⟩
            · go_wp2_with (first | (go_at_call_of 23 (fst ls k); refine (refBits_any _ true E1.out _).mono ?_; rintro r w' ⟨rfl, rfl⟩) | (go_at_call 23; refine (refBits_any _ true E2.out _).mono ?_; rintro r w' ⟨rfl, rfl⟩))
              go_round
              case rel => exact ⟨k + 1, by omega, by go_num, fun j hj => by rcases Nat.lt_or_ge j k with h | h; exact HK.out j h; rw [show j = k by omega]; exact E3.out⟩
              case measure => simp [intOf]; omega
        · have e : k = ls.length := by omega
          subst e
          go_wp2
          go_ret
          exact ⟨ret_num (show (0 : Int) = e by rw [← HE.out, right_all HQ.out HM.out ((allB_iff ls).2 HK.out)]), box_over _ _⟩
  · have hr' : rng g i = false := by simpa using hr
    have H3 : Hid ((11 : Int) = e) := by show _ = _; rw [← HE.out, right_rng hr']
    have hb : ¬ (1 ≤ g ∧ g ≤ 16 ∧ 0 ≤ i ∧ i ≤ 64) := fun ⟨q1, q2, q3, q4⟩ => hr (by simp [rng, q1, q2, q3, q4])
    clear hr hr'
    by_cases h1 : g < 1
    · clear hb
      go_enter Tryd.func10, Tryd.ntmps10
      go_wp2
      go_ret
      exact ⟨ret_num H3.out, box_over _ _⟩
    · by_cases h2 : 16 < g
      · have h1' : 1 ≤ g := by omega
        clear hb h1
        go_enter Tryd.func10, Tryd.ntmps10
        go_wp2
        go_ret
        exact ⟨ret_num H3.out, box_over _ _⟩
      · have h1' : 1 ≤ g := by omega
        have h2' : g ≤ 16 := by omega
        by_cases h3 : i < 0
        · clear hb h1 h2
          go_enter Tryd.func10, Tryd.ntmps10
          go_wp2
          go_ret
          exact ⟨ret_num H3.out, box_over _ _⟩
        · have h3' : 0 ≤ i := by omega
          have h4 : 64 < i := by omega
          clear hb h1 h2 h3
          go_enter Tryd.func10, Tryd.ntmps10
          go_wp2
          go_ret
          exact ⟨ret_num H3.out, box_over _ _⟩
end Go.Proofs.YtfdmgnfeceoefaaDoor
