/- Tables over a pool of any slots answer any calls as the document says; behind each call each slot is held as often as entries of all tables point at it, and the others are free. -/
import Derived.Test.YtpifemahakbegaaRows
import Derived.Test.YtpifemahakbegaaBkC
import Derived.WalkKit
import Derived.ProofKit
import Derived.OpenShut
import Derived.ShutString
import Derived.ChangeOld
import Derived.Below
namespace Go.Proofs.Ytpifemahakbegaa.blockPlays
open Go.ChangeShapes Go.WideShapes Go.ChangeAt Go.RowKit
set_option linter.unusedVariables false

theorem own : ownKnob Try.prog.godebug = none := by kernel_rfl
theorem laidOut : laidOutB Try.prog = true := by kernel_rfl

/-- What the walk is told of a slice of integers that came in. -/
def IsRow (k : IntKind) (w : World) (a : Option Addr) (len cap : Nat) (zs : List Int) : Prop :=
  (a = none ∧ len = 0 ∧ cap = 0 ∧ zs = []) ∨
  ∃ x, a = some x ∧ len ≤ cap ∧ cap ≤ maxLen ∧ zs.length = cap ∧ (∀ i, i < zs.length → w.cell? (x.add i) = some (.int k (zs.getD i 0))) ∧ ∀ n ∈ zs, (Lit.int k n).wf = true

set_option maxRecDepth 100000 in
set_option maxHeartbeats 3200000 in
theorem walk (a0 : Int) (a1 : Int) (a2 : Option Addr) (len2 cap2 : Nat) (w : World) (w0 : (Lit.int .i64 a0).wf = true) (w1 : (Lit.int .i64 a1).wf = true) (w2 : IsCalls w a2 len2 cap2) :
    Calls Try.prog 3 #[.int .i64 a0, .int .i64 a1, .slice a2 len2 cap2] w fun e w' => e = .returned (.bool true) ∧ Below w.heap.size w w' := by
  -- depth
  obtain ⟨K, HKc, ML⟩ := calls_open w2
  have HC : Hid (Cls w a2 len2 K) := HKc
  have hz0 := bounds_i64 w0
  have hz1 := bounds_i64 w1
  unfold maxLen at ML
  clear w0 w1 w2 HKc
  by_cases hm : 50 < len2 ∨ a0 < 0 ∨ 60 < a0
  · by_cases q1 : 50 < len2 <;> by_cases q2 : a0 < 0 <;> by_cases q3 : 60 < a0
    all_goals first
      | (exfalso; omega)
      | (go_enter Try.func3, Try.ntmps3
         go_wp2_with (go_at_call 7; refine (bkAwake_any _).mono ?_; rintro e wa ⟨rfl, hba⟩)
         go_ret
         exact ⟨rfl, hba⟩)
  obtain ⟨n, rfl⟩ : ∃ n : Nat, a0 = n := ⟨a0.toNat, by omega⟩
  have hn : n ≤ 60 := by omega
  have hl1 : len2 ≤ 50 := by omega
  have g1 : decide ((50 : Int) < (len2 : Int)) = false := decide_eq_false (by omega)
  have g3 : decide ((60 : Int) < (n : Int)) = false := decide_eq_false (by omega)
  by_cases hr : a1 < 0 ∨ 16 < a1
  · have HR : Hid (a1 < 0 ∨ 16 < a1) := hr
    clear hm hz0 ML
    by_cases q1 : a1 < 0 <;> by_cases q2 : 16 < a1
    all_goals first
      | (exfalso; omega)
      | (clear hr
         go_enter Try.func3, Try.ntmps3
         go_wp2_with (first
           | (go_at_call 8; refine (begun_rows n a1 (by omega) HR.out _).mono ?_; rintro e w1 ⟨rfl, hb⟩; have B1 : Hid (Below w.heap.size w w1) := hb; clear hb)
           | (go_at_call 7; refine (bkAwake_any _).mono ?_; rintro e wa ⟨rfl, hba⟩; have B2 : Hid (Below w1.heap.size w1 wa) := hba; clear hba))
         go_ret
         exact ⟨rfl, below_then B1.out B2.out⟩)
  obtain ⟨m, rfl⟩ : ∃ m : Nat, a1 = m := ⟨a1.toNat, by omega⟩
  have hm16 : m ≤ 16 := by omega
  have g5 : decide ((16 : Int) < (m : Int)) = false := decide_eq_false (by omega)
  clear hm hz0 hz1 ML hr
  go_enter Try.func3, Try.ntmps3
  go_wp2_with (go_at_call 8; refine (begun_ok n m hn hm16 _).mono ?_; rintro e w1 ⟨P, rfl, hp, hb⟩; have P1 : Hid (PlayP w.heap.size w1 P n m 1 0) := hp; have B1 : Hid (Below w.heap.size w w1) := hb; clear hp hb)
  go_loopw [40] (fun i wq => ∃ (c k : Nat), c ≤ len2 ∧ i = .int .i64 c ∧ Hid (PlayP w.heap.size wq P n m k c) ∧ Hid (Below w.heap.size w wq)) (fun i _ => len2 - (intOf i).toNat)
  case atStart => exact ⟨0, 1, Nat.zero_le _, rfl, P1.out, B1.out⟩
  case round =>
    obtain ⟨c, k, hc, rfl, PR, BR⟩ := hrel
    by_cases hlt : c < len2
    · obtain ⟨ob, oo, e, k0, k1, k2, k3⟩ := (HC.out.keep BR.out) c hlt
      subst e
      obtain ⟨x0, x1, x2, x3, ek⟩ : ∃ a b d e, K c = (a, b, d, e) := ⟨(K c).1, (K c).2.1, (K c).2.2.1, (K c).2.2.2, rfl⟩
      rw [ek] at k0 k1 k2 k3
      have k0' : wr.cell? ⟨ob, oo + c * 4, none⟩ = some (.int .i64 x0) := k0
      have k1' : wr.cell? ⟨ob, oo + c * 4 + 1, none⟩ = some (.int .i64 x1) := k1
      have k2' : wr.cell? ⟨ob, oo + c * 4 + 2, none⟩ = some (.int .i64 x2) := k2
      have k3' : wr.cell? ⟨ob, oo + c * 4 + 3, none⟩ = some (.int .i64 x3) := k3
      clear k0 k1 k2 k3 ek
      go_wp2_with (first
        | (go_at_call 9; refine (step_any w.heap.size P n m k c x0 x1 x2 x3 _ (PR.out.keep (box_below _ _)) (by omega) hm16 hn).mono ?_; rintro e w3 ⟨rfl, ⟨k', hp⟩, hb⟩; have P3 : Hid (PlayP w.heap.size w3 P n m k' (c + 1)) := hp; have B3 : Hid (Below w.heap.size w w3) := (BR.out.trans ((box_below _ _).mono BR.out.size)).trans hb; clear hp hb)
        | (go_at_call 10; refine (is_any w.heap.size P n m k' (c + 1) _ P3.out (by omega) hm16 hn).mono ?_; rintro e w4 ⟨rfl, hb⟩; have P4 : Hid (PlayP w.heap.size w4 P n m k' (c + 1)) := P3.out.keep hb; have B4 : Hid (Below w.heap.size w w4) := below_then B3.out hb; clear hb))
      go_roundw
      case rel => exact ⟨c + 1, k', by omega, by go_num, P4.out, B4.out⟩
      case measure => simp [intOf]; omega
    · have ec : c = len2 := by omega
      subst ec
      go_wp2_with (go_at_call 7; refine (bkAwake_any _).mono ?_; rintro e w9 ⟨rfl, hb9⟩; have Z9 : Hid (Below wr.heap.size wr w9) := hb9; clear hb9)
      go_ret
      exact ⟨rfl, below_then BR.out Z9.out⟩

set_option maxRecDepth 100000 in
theorem lifted (os : Os) (started : os.Started) (H : Type) (enc : TypeId × Value → H) :
    ReturnsInHanded {} Try.checked os 3 .any (Rows.blockPlaysSpec.pre6 enc Try.prog Try.f3 Rows.blockPlaysRow.domain false) (Rows.blockPlaysSpec.post enc Try.prog Try.f3 false true false false) := by
  refine returnsInHanded_of_change (C := Try.checked) own started (by kernel_rfl) Try.func3
    (ChangeSpec.witness6 (enc := enc) (C := Try.checked) false ⟨#[], #[.int .i64 0, .int .i64 0, .slice none 0 0], []⟩ 8 (by kernel_rfl) (by kernel_rfl) (by kernel_rfl) (by kernel_rfl)) ?_
  intro W base args ds gs before hval0 hW hcnd _
  have hval : ∀ (j : Nat) t v, Try.f3.params[j]? = some t → args[j]? = some v → Value.okWide Try.prog W .any base t v := hval0
  have hW' := hW
  obtain ⟨p, q, hA0, hV, rfl, hfz, hnd⟩ := hW
  have hA : DataW.TrodAll enc Try.prog W 0 (fun _ => true) true Try.f3.params.toList args.toList ds p := hA0
  rw [Try.params3] at hA hval
  obtain ⟨v0, vs0, d0, ds0, p0, q0, hargs, rfl, rfl, h0, r0⟩ := trodAll_cons hA
  obtain ⟨v1, vs1, d1, ds1, p1, q1, rfl, rfl, rfl, h1, r1⟩ := trodAll_cons r0
  obtain ⟨v2, vs2, d2, ds2, p2, q2, rfl, rfl, rfl, h2, r2⟩ := trodAll_cons r1
  obtain ⟨rfl, rfl, rfl⟩ := trodAll_nil r2
  obtain rfl : args = #[v0, v1, v2] := by cases args; simp_all
  obtain ⟨rfl, rfl⟩ := trodVars_none hV
  obtain ⟨a0, rfl, rfl, rfl, w0⟩ := open_int Try.underlying3 (hval 0 3 v0 rfl rfl) h0
  obtain ⟨a1, rfl, rfl, rfl, w1⟩ := open_int Try.underlying3 (hval 1 3 v1 rfl rfl) h1
  obtain ⟨a2, len2, cap2, rfl⟩ := okWide_slice Try.underlying22 (hval 2 22 v2 rfl rfl)
  have k2 := h2
  have lt2 : ∀ x ∈ p2, x.block < W.heap.size := by obtain ⟨m, hm⟩ := k2; exact DataW.trod_lt m _ _ _ hm
  have w2 : IsCalls W a2 len2 cap2 := by
    obtain ⟨fuel, hf⟩ := h2
    exact open_calls Try.underlying22 Try.underlying27 Try.underlying3 (by kernel_rfl) (by kernel_rfl) rfl rfl rfl rfl rfl rfl rfl rfl (by simpa [Value.cells] using hf)
  clear hA0 hval0
  refine (walk a0 a1 a2 len2 cap2 W w0 w1 w2).mono fun e W' ⟨he, bel⟩ => ?_
  subst he
  exact ⟨_, rfl, _, _, _, [], _, [], hW', trodAll_mk1 (shut_bool Try.underlying4 _), (trodAll_cons_mk (shut_int Try.underlying3 w0) (trodAll_cons_mk (shut_int Try.underlying3 w1) (trodAll_cons_mk (Below.trod laidOut (by kernel_rfl) (of_decide_eq_true (by kernel_rfl)) k2 bel lt2) trodAll_mk0))), rfl, bel.frame _, fun h => by cases h⟩

theorem over : Rows.blockPlaysRow.holds Try.pinned (OpenSpec.ofChange Rows.blockPlaysSpec) :=
  OpenClaim.holds_of_wide 3 Try.f3 rfl rfl rfl rfl rfl rfl rfl ⟨rfl, rfl, rfl, rfl, rfl⟩ rfl rfl rfl rfl rfl (by kernel_rfl) Try.func3 (by kernel_rfl)
    (of_decide_eq_true (by kernel_rfl)) (by unfold Func.isWrapper; first | (rw [if_pos (by decide +kernel)]; kernel_rfl) | (rw [if_neg (by decide +kernel)]; exact ⟨rfl, rfl⟩))
    (fun os started H enc _ => lifted os started H enc)

theorem proved : Rows.BlockPlaysSaid := over
end Go.Proofs.Ytpifemahakbegaa.blockPlays

namespace Go.Proofs.Ytpifemahakbegaa
theorem blockPlays_holds : Rows.BlockPlaysSaid := blockPlays.proved
#print axioms blockPlays_holds
end Go.Proofs.Ytpifemahakbegaa
