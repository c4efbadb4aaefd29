/- A ring of any size answers any calls as a plain list does, and has its things behind each. -/
import Derived.Test.YtgjghnbhpnflfaaRows
import Derived.Test.YtgjghnbhpnflfaaRnLaw
import Derived.WalkKit
import Derived.ProofKit
import Derived.OpenShut
import Derived.ShutString
import Derived.ChangeOld
import Derived.Below
namespace Go.Proofs.Ytgjghnbhpnflfaa.ringPlays
open Go.ChangeShapes Go.WideShapes Go.ChangeAt Go.RowKit
set_option linter.unusedVariables false

theorem own : ownKnob Try.prog.godebug = none := by kernel_rfl
theorem laidOut : laidOutB Try.prog = true := by kernel_rfl

/-- What the walk is told of a slice of integers that came in. -/
def IsRow (k : IntKind) (w : World) (a : Option Addr) (len cap : Nat) (zs : List Int) : Prop :=
  (a = none ∧ len = 0 ∧ cap = 0 ∧ zs = []) ∨
  ∃ x, a = some x ∧ len ≤ cap ∧ cap ≤ maxLen ∧ zs.length = cap ∧ (∀ i, i < zs.length → w.cell? (x.add i) = some (.int k (zs.getD i 0))) ∧ ∀ n ∈ zs, (Lit.int k n).wf = true

set_option maxRecDepth 100000 in
set_option maxHeartbeats 3200000 in
theorem walk (a0 : Int) (a1 : Option Addr) (len1 cap1 : Nat) (w : World) (w0 : (Lit.int .i64 a0).wf = true) (w1 : IsPairs w a1 len1 cap1) :
    Calls Try.prog 3 #[.int .i64 a0, .slice a1 len1 cap1] w fun e w' => e = .returned (.bool true) ∧ Below w.heap.size w w' := by
  -- depth
  obtain ⟨K, N, HKc, _, ML⟩ := pairs_open w1
  have HC : Hid (Prs w a1 len1 K N) := HKc
  have hz0 := bounds_i64 w0
  unfold maxLen at ML
  clear w0 w1 HKc
  by_cases hm : 80 < len1
  · go_enter Try.func3, Try.ntmps3
    go_wp2_with (go_at_call 7; refine (Rn.awake_any _).mono ?_; rintro e wa ⟨rfl, hba⟩)
    go_ret
    exact ⟨rfl, hba⟩
  have g1 : decide ((80 : Int) < (len1 : Int)) = false := decide_eq_false (by omega)
  by_cases hr : a0 < 0 ∨ 1024 < a0
  · have HR : Hid (a0 < 0 ∨ 1024 < a0) := hr
    by_cases q1 : a0 < 0 <;> by_cases q2 : 1024 < a0
    all_goals first
      | (exfalso; omega)
      | (clear hr hm ML
         go_enter Try.func3, Try.ntmps3
         go_wp2_with (first
           | (go_at_call 8; refine (Rn.new_bad a0 HR.out _).mono ?_; rintro e w' ⟨rfl, hww⟩; cases hww.symm; clear hww)
           | (go_at_call 7; refine (Rn.awake_any _).mono ?_; rintro e wa ⟨rfl, hba⟩))
         go_ret
         exact ⟨rfl, hba⟩)
  obtain ⟨n, rfl⟩ : ∃ n : Nat, a0 = n := ⟨a0.toNat, by omega⟩
  have hn : n ≤ 1024 := by omega
  have g2 : decide ((1024 : Int) < (n : Int)) = false := decide_eq_false (by omega)
  have hl80 : len1 ≤ 80 := by omega
  clear hm hz0 ML hr
  go_enter Try.func3, Try.ntmps3
  go_wp2_with (go_at_call 8; refine (Rn.new_ok n hn _).mono ?_; rintro e w1 ⟨g, q, rfl, hr, hg, hq, hb⟩; have S1 : Hid (Rn.St w.heap.size w1 g q n 0 [] none 0) := ⟨hr, Lst.nil _ _ _, Nat.zero_le _, Nat.zero_le _, fun _ => rfl, fun h => absurd h (Nat.lt_irrefl _), hg, hq, hb.size⟩; have B1 : Hid (Below w.heap.size w w1) := hb; clear hr hg hq hb)
  go_loopw [5, 7, 43] (fun r l i wq => ∃ (c g q f k : Nat) (L : List Int) (a : Option Addr) (ca : Nat), c ≤ len1 ∧ i = .int .i64 c ∧ r = .pointer (some ⟨g, 0, none⟩) ∧ l = .slice a k ca ∧ Hid (L.length = k) ∧ Hid (Rn.St w.heap.size wq g q n f L a ca) ∧ Hid (Below w.heap.size w wq)) (fun _ _ i _ => len1 - (intOf i).toNat)
  case atStart => exact ⟨0, g, q, 0, 0, [], none, 0, Nat.zero_le _, rfl, rfl, rfl, rfl, S1.out, B1.out⟩
  case round =>
    clear S1 B1
    obtain ⟨c, g, q, f, k, L, a, ca, hc, rfl, rfl, rfl, HL, SR, BR⟩ := hrel
    by_cases hlt : c < len1
    · obtain ⟨ob, oo, e, k0, k1⟩ := (HC.out.keep BR.out) c hlt
      subst e
      obtain ⟨x0, e0⟩ : ∃ x, K c = x := ⟨_, rfl⟩
      obtain ⟨x1, e1⟩ : ∃ x, N c = x := ⟨_, rfl⟩
      rw [e0] at k0
      rw [e1] at k1
      clear e0 e1
      go_wp2_with fail
      refine (Rn.step_any w.heap.size g q n f k ca a x0 x1 L _ (SR.out.keep (Rn.box_below _ _)) HL.out).mono ?_
      rintro e w3 ⟨g3, q3, f3, c3, l3, a3, ca3, rfl, hl3, st3, hb3⟩
      have H3 : Hid (l3.length = c3) := hl3
      have S3 : Hid (Rn.St w.heap.size w3 g3 q3 n f3 l3 a3 ca3) := st3
      have B3 : Hid (Below w.heap.size w w3) := (BR.out.trans ((Rn.box_below _ _).mono BR.out.size)).trans hb3
      have hc3 : c3 ≤ 1024 := by have := st3.1.nums; omega
      clear hl3 st3 hb3 k0 k1
      go_wp2_with (first
        | (go_at_call 10; refine (Rn.len_any g3 q3 n f3 c3 _ (by have := S3.out.1.hd; rw [H3.out] at this; exact this)).mono ?_; rintro e w' ⟨rfl, hww⟩; cases hww.symm; clear hww)
        | (go_at_call 11; refine (Rn.size_any g3 q3 n f3 l3.length _ S3.out.1.hd).mono ?_; rintro e w' ⟨rfl, hww⟩; cases hww.symm; clear hww)
        | (go_at_call 13; refine (Rn.list_any g3 q3 n f3 l3 _ S3.out.1).mono ?_; rintro e w4 ⟨v, rfl, ho, hb⟩; rw [H3.out] at ho; obtain ⟨va, vc, rfl⟩ := Rn.own_slice ho; have O4 : Hid (w4.ownsRow w3.heap.size 3 1 (.slice va c3 vc) c3 (l3.map (Value.int .i64))) := ho; have S4 : Hid (Rn.St w.heap.size w4 g3 q3 n f3 l3 a3 ca3) := S3.out.keep hb; have B4 : Hid (Below w.heap.size w w4) := below_then B3.out hb; clear ho hb)
        | (go_at_call 12; refine (Rn.same_yes va a3 c3 vc ca3 l3 _ (Rn.own_list O4.out H3.out) S4.out.2.1 H3.out (by omega)).mono ?_; rintro e w5 ⟨rfl, z, hz⟩; have S5 : Hid (Rn.St w.heap.size w5 g3 q3 n f3 l3 a3 ca3) := (by rw [hz]; exact S4.out.keep (Rn.below_drewN (Below.refl _ _) _)); have B5 : Hid (Below w.heap.size w w5) := (by rw [hz]; exact Rn.below_drewN B4.out _); clear hz))
      go_roundw
      case rel => exact ⟨c + 1, g3, q3, f3, c3, l3, a3, ca3, by omega, by go_num, rfl, rfl, H3.out, S5.out, B5.out⟩
      case measure => simp [intOf]; omega
    · have ec : c = len1 := by omega
      subst ec
      go_wp2_with (go_at_call 7; refine (Rn.awake_any _).mono ?_; rintro e w9 ⟨rfl, hb9⟩; have Z9 : Hid (Below wr.heap.size wr w9) := hb9; clear hb9)
      go_ret
      exact ⟨rfl, below_then BR.out Z9.out⟩

set_option maxRecDepth 100000 in
theorem lifted (os : Os) (started : os.Started) (H : Type) (enc : TypeId × Value → H) :
    ReturnsInHanded {} Try.checked os 3 .any (Rows.ringPlaysSpec.pre6 enc Try.prog Try.f3 Rows.ringPlaysRow.domain false) (Rows.ringPlaysSpec.post enc Try.prog Try.f3 false true false false) := by
  refine returnsInHanded_of_change (C := Try.checked) own started (by kernel_rfl) Try.func3
    (ChangeSpec.witness6 (enc := enc) (C := Try.checked) false ⟨#[], #[.int .i64 0, .slice none 0 0], []⟩ 8 (by kernel_rfl) (by kernel_rfl) (by kernel_rfl) (by kernel_rfl)) ?_
  intro W base args ds gs before hval0 hW hcnd _
  have hval : ∀ (j : Nat) t v, Try.f3.params[j]? = some t → args[j]? = some v → Value.okWide Try.prog W .any base t v := hval0
  have hW' := hW
  obtain ⟨p, q, hA0, hV, rfl, hfz, hnd⟩ := hW
  have hA : DataW.TrodAll enc Try.prog W 0 (fun _ => true) true Try.f3.params.toList args.toList ds p := hA0
  rw [Try.params3] at hA hval
  obtain ⟨v0, vs0, d0, ds0, p0, q0, hargs, rfl, rfl, h0, r0⟩ := trodAll_cons hA
  obtain ⟨v1, vs1, d1, ds1, p1, q1, rfl, rfl, rfl, h1, r1⟩ := trodAll_cons r0
  obtain ⟨rfl, rfl, rfl⟩ := trodAll_nil r1
  obtain rfl : args = #[v0, v1] := by cases args; simp_all
  obtain ⟨rfl, rfl⟩ := trodVars_none hV
  obtain ⟨a0, rfl, rfl, rfl, w0⟩ := open_int Try.underlying3 (hval 0 3 v0 rfl rfl) h0
  obtain ⟨a1, len1, cap1, rfl⟩ := okWide_slice Try.underlying22 (hval 1 22 v1 rfl rfl)
  have k1 := h1
  have lt1 : ∀ x ∈ p1, x.block < W.heap.size := by obtain ⟨m, hm⟩ := k1; exact DataW.trod_lt m _ _ _ hm
  have w1 : IsPairs W a1 len1 cap1 := by
    obtain ⟨fuel, hf⟩ := h1
    rcases Go.Deep.open_slice_pairs Try.underlying22 Try.underlying30 (by kernel_rfl) rfl rfl (by kernel_rfl) (by kernel_rfl) hf with ⟨hcs, _⟩ | ⟨x, l, c, m, n, V0, V1, D0, D1, P0, P1, hcs, _, hl, hm, hmm, _, hall⟩
    · simp [Value.cells] at hcs
      obtain ⟨rfl, rfl, rfl⟩ := hcs
      exact .inl ⟨rfl, rfl, rfl⟩
    · simp [Value.cells] at hcs
      obtain ⟨rfl, rfl, rfl⟩ := hcs
      simp only [if_true] at hmm
      refine .inr ⟨x, rfl, hl, hm, fun i hi => ?_⟩
      obtain ⟨q1, q2, q3, q4⟩ := hall i (by omega)
      obtain ⟨k, e1, _, _⟩ := DataW.trod_int Try.underlying3 q3
      obtain ⟨n', e2, _, hw⟩ := DataW.trod_int Try.underlying3 q4
      simp only [List.cons.injEq, and_true] at e1 e2
      rw [e1] at q1
      rw [e2] at q2
      exact ⟨k, n', q1, q2, bounds_i64 hw⟩
  clear hA0 hval0
  refine (walk a0 a1 len1 cap1 W w0 w1).mono fun e W' ⟨he, bel⟩ => ?_
  subst he
  exact ⟨_, rfl, _, _, _, [], _, [], hW', trodAll_mk1 (shut_bool Try.underlying4 _), (trodAll_cons_mk (shut_int Try.underlying3 w0) (trodAll_cons_mk (Below.trod laidOut (by kernel_rfl) (of_decide_eq_true (by kernel_rfl)) k1 bel lt1) trodAll_mk0)), rfl, bel.frame _, fun h => by cases h⟩

theorem over : Rows.ringPlaysRow.holds Try.pinned (OpenSpec.ofChange Rows.ringPlaysSpec) :=
  OpenClaim.holds_of_wide 3 Try.f3 rfl rfl rfl rfl rfl rfl rfl ⟨rfl, rfl, rfl, rfl, rfl⟩ rfl rfl rfl rfl rfl (by kernel_rfl) Try.func3 (by kernel_rfl)
    (of_decide_eq_true (by kernel_rfl)) (by unfold Func.isWrapper; first | (rw [if_pos (by decide +kernel)]; kernel_rfl) | (rw [if_neg (by decide +kernel)]; exact ⟨rfl, rfl⟩))
    (fun os started H enc _ => lifted os started H enc)

theorem proved : Rows.RingPlaysSaid := over
end Go.Proofs.Ytgjghnbhpnflfaa.ringPlays

namespace Go.Proofs.Ytgjghnbhpnflfaa
theorem ringPlays_holds : Rows.RingPlaysSaid := ringPlays.proved
#print axioms ringPlays_holds
end Go.Proofs.Ytgjghnbhpnflfaa
