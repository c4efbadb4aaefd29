/- Contracts of layer 9: are two plans one; the document's Right. -/
import Derived.Test.YtfdmgnfeceoefaaDoorTrRef
import Derived.Laws.StructEq
namespace Go.Proofs.YtfdmgnfeceoefaaDoor
set_option linter.unusedVariables false
open Go.RowKit
open Tr

/-- Two pairs of bits, held against one another. -/
theorem eqBits (a b c d : Int) (q : Bool) (hq : (a == c && b == d) = q) (w : World) : (Op.equalIn 10000 49 (.agg #[.int .i64 a, .int .i64 b]) (.agg #[.int .i64 c, .int .i64 d])).run Tryd.prog w = .ok q w := by
  have u3 := Tryd.underlying3
  have a3 := Tryd.isAgg3
  have z3 := Tryd.sizeOf3
  have hS : Tryd.prog.underlying 49 = some (.struct (Tryd.prog.fieldsOf 49)) := by kernel_rfl
  have hp : Tryd.prog.stoodInHeld 49 = false := by kernel_rfl
  rw [show (10000 : Nat) = 9999 + 1 from rfl, run_equalIn_struct w 9999 49 _ _ hS hp]
  simp only [Program.fieldsOf, Tryd.underlying49]
  go_simp
  subst hq
  by_cases h1 : a = c <;> by_cases h2 : b = d <;> simp [h1, h2]
theorem eqPair (a b c d : Int) (q : Bool) (hq : (a == c && b == d) = q) (w : World) : (Op.equalIn 10000 51 (.agg #[.int .i64 a, .int .i64 b]) (.agg #[.int .i64 c, .int .i64 d])).run Tryd.prog w = .ok q w := by
  have u3 := Tryd.underlying3
  have a3 := Tryd.isAgg3
  have z3 := Tryd.sizeOf3
  rw [show (10000 : Nat) = 9999 + 1 from rfl, Op.equalIn]
  simp only [Sem.run_bind, run_underlying Tryd.underlying51, Result.andThen_ok]
  simp only [Std.Legacy.Range.forIn_eq_forIn_range', Std.Legacy.Range.size, Nat.sub_zero, Nat.add_sub_cancel, Nat.div_one, List.range'_succ, List.range'_zero, List.forIn_cons, List.forIn_nil]
  subst hq
  by_cases h1 : a = c <;> by_cases h2 : b = d <;> (go_simp; try simp [h1, h2])

theorem Tr.two {ls ms : List (Int × Int)} {k : Nat} (hk : (fst ls k == fst ms k && snd ls k == snd ms k) = true) : fst ls k = fst ms k ∧ snd ls k = snd ms k := by simpa using hk

set_option maxHeartbeats 1600000 in
theorem slicesEqual_any (a1 a2 : Option Addr) (c1 c2 : Nat) (ls ms : List (Int × Int)) (q : Bool) (hq : decide (ls = ms) = q) (w : World) (h1 : Ps w a1 ls) (h2 : Ps w a2 ms) (hl : ls.length ≤ maxLen) :
    Calls Tryd.prog 29 #[.slice a1 ls.length c1, .slice a2 ms.length c2] w fun e w' => e = .returned (.bool q) ∧ ∃ n, w' = w.drewN n := by
  unfold maxLen at hl
  have H1 : Hid (Ps w a1 ls) := h1
  have H2 : Hid (Ps w a2 ms) := h2
  have HQ : Hid (decide (ls = ms) = q) := hq
  clear h1 h2 hq
  by_cases hn : ls.length = ms.length
  · have g : ((ls.length : Int) != (ms.length : Int)) = false := by rw [hn]; simp
    have HN : Hid (ls.length = ms.length) := hn
    have hn1 : ls.length ≤ ms.length := by omega
    have hn2 : ms.length ≤ ls.length := by omega
    clear hn
    go_enter Tryd.func29, Tryd.ntmps29
    go_wp2
    go_loopw [13] (fun i wr => ∃ k n : Nat, k ≤ ls.length ∧ i = .int .i64 k ∧ wr = w.drewN n ∧ Hid (∀ j, j < k → fst ls j = fst ms j ∧ snd ls j = snd ms j)) (fun i _ => ls.length - (intOf i).toNat)
    case atStart => exact ⟨0, 0, Nat.zero_le _, rfl, rfl, fun j hj => by omega⟩
    case round =>
      obtain ⟨k, n, hk, rfl, rfl, HK⟩ := hrel
      by_cases hlt : k < ls.length
      · obtain ⟨b1, o1, rfl, hc1⟩ := H1.out.get (by omega)
        obtain ⟨b2, o2, rfl, hc2⟩ := H2.out.get (by omega)
        have d0 := (hc1 k hlt).1
        have d1 := (hc1 k hlt).2
        have e0 := (hc2 k (by omega)).1
        have e1 := (hc2 k (by omega)).2
        have hlt2 : k < ms.length := by omega
        clear hc1 hc2
        obtain ⟨p, hp⟩ : ∃ p, (fst ls k == fst ms k && snd ls k == snd ms k) = p := ⟨_, rfl⟩
        have HP : Hid ((fst ls k == fst ms k && snd ls k == snd ms k) = p) := hp
        have heq : ∀ u : World, (Op.equalIn 10000 49 (.agg #[.int .i64 (fst ls k), .int .i64 (snd ls k)]) (.agg #[.int .i64 (fst ms k), .int .i64 (snd ms k)])).run Tryd.prog u = .ok p u := fun u => eqBits _ _ _ _ p hp u
        clear hp
        cases p
        · go_wp2
          go_quiet (fail)
          go_wp2
          go_ret
          refine ⟨ret_bool (show false = q from ?_), _, World.drewN_drewN _ _ _⟩
          rw [← HQ.out]
          symm
          apply decide_eq_false
          intro e
          have := HP.out
          rw [e] at this
          simp at this
        · go_wp2
          go_quiet (fail)
          go_wp2
          go_roundw
          case rel => exact ⟨k + 1, _, by omega, by go_num, by first | rfl | exact World.drewN_drewN _ _ _, fun j hj => by rcases Nat.lt_or_ge j k with h | h; exact HK.out j h; rw [show j = k by omega]; exact Tr.two HP.out⟩
          case measure => simp [intOf]; omega
      · have e : k = ls.length := by omega
        subst e
        go_wp2
        go_ret
        refine ⟨ret_bool (show true = q from ?_), _, rfl⟩
        rw [← HQ.out]
        symm
        exact decide_eq_true (pairs_ext HN.out HK.out)
  · have g : ((ls.length : Int) != (ms.length : Int)) = true := by simp; omega
    have HN : Hid (¬ ls.length = ms.length) := hn
    clear hn
    go_enter Tryd.func29, Tryd.ntmps29
    go_wp2
    go_ret
    refine ⟨ret_bool (show false = q from ?_), 0, rfl⟩
    rw [← HQ.out]
    symm
    exact decide_eq_false (fun e => HN.out (by rw [e]))
end Go.Proofs.YtfdmgnfeceoefaaDoor
