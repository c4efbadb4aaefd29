/- What is pushed comes out in its order, however it is shifted; nothing is lost, and nothing comes twice. -/
import Derived.Test.YtgjghnbhpnflfaaRows
import Derived.Test.YtgjghnbhpnflfaaRnLaw
import Derived.WalkKit
import Derived.ProofKit
import Derived.OpenShut
import Derived.ShutString
import Derived.ChangeOld
import Derived.Below
namespace Go.Proofs.Ytgjghnbhpnflfaa.ringFlows
open Go.ChangeShapes Go.WideShapes Go.ChangeAt Go.RowKit
set_option linter.unusedVariables false

theorem own : ownKnob Try.prog.godebug = none := by kernel_rfl
theorem laidOut : laidOutB Try.prog = true := by kernel_rfl

/-- What the walk is told of a slice of integers that came in. -/
def IsRow (k : IntKind) (w : World) (a : Option Addr) (len cap : Nat) (zs : List Int) : Prop :=
  (a = none ∧ len = 0 ∧ cap = 0 ∧ zs = []) ∨
  ∃ x, a = some x ∧ len ≤ cap ∧ cap ≤ maxLen ∧ zs.length = cap ∧ (∀ i, i < zs.length → w.cell? (x.add i) = some (.int k (zs.getD i 0))) ∧ ∀ n ∈ zs, (Lit.int k n).wf = true

set_option maxRecDepth 100000 in
set_option maxHeartbeats 3200000 in
theorem walk (a0 : Int) (a1 : Option Addr) (len1 cap1 : Nat) (z1 : List Int) (w : World) (w0 : (Lit.int .i64 a0).wf = true) (w1 : IsRow .i64 w a1 len1 cap1 z1) :
    Calls Try.prog 4 #[.int .i64 a0, .slice a1 len1 cap1] w fun e w' => e = .returned (.bool true) ∧ Below w.heap.size w w' := by
  -- depth
  -- frame
  obtain ⟨ls, hl, HLc, ML⟩ := row_openI w1
  have HL : Hid (Lst .i64 w a1 ls) := HLc
  have LL : Hid (ls.length = len1) := hl
  have hz0 := bounds_i64 w0
  unfold maxLen at ML
  clear w0 w1 HLc hl
  by_cases hm : a0 < 1 ∨ 60 < a0 ∨ 60 < len1
  · by_cases q1 : a0 < 1 <;> by_cases q2 : 60 < a0 <;> by_cases q3 : 60 < len1
    all_goals first
      | (exfalso; omega)
      | (go_enter Try.func4, Try.ntmps4
         go_wp2_with (go_at_call 7; refine (Rn.awake_any _).mono ?_; rintro e wa ⟨rfl, hba⟩)
         go_ret
         exact ⟨rfl, hba⟩)
  obtain ⟨n, rfl⟩ : ∃ n : Nat, a0 = n := ⟨a0.toNat, by omega⟩
  have hn : n ≤ 60 := by omega
  have hn1 : 1 ≤ n := by omega
  have hl1 : len1 ≤ 60 := by omega
  have g1 : decide ((n : Int) < (1 : Int)) = false := decide_eq_false (by omega)
  have g2 : decide ((60 : Int) < (n : Int)) = false := decide_eq_false (by omega)
  have g3 : decide ((60 : Int) < (len1 : Int)) = false := decide_eq_false (by omega)
  clear hm hz0 ML
  go_enter Try.func4, Try.ntmps4
  go_wp2_with (go_at_call 8; refine (Rn.new_ok n (by omega) _).mono ?_; rintro e w1 ⟨g, q, rfl, hr, hg, hq, hb⟩; have R1 : Hid (Rn.RingAt w1 g q n 0 []) := hr; have GQ : Hid (w.heap.size ≤ g ∧ w.heap.size ≤ q) := ⟨hg, hq⟩; have B1 : Hid (Below w.heap.size w w1) := hb; clear hr hg hq hb)
  go_loopw [7, 8, 39] (fun x y i wq => ∃ (c f i0 o0 : Nat) (L : List Int), c ≤ len1 ∧ i = .int .i64 c ∧ x = .int .i64 i0 ∧ y = .int .i64 o0 ∧ o0 ≤ i0 ∧ i0 ≤ 60 * c ∧ Hid (L.length = i0 - o0 ∧ ∀ j, j < L.length → Ls.nth L j = ((o0 + j : Nat) : Int)) ∧ Hid (Rn.RingAt wq g q n f L) ∧ Hid (Below w.heap.size w wq)) (fun _ _ i _ => len1 - (intOf i).toNat)
  case atStart => exact ⟨0, 0, 0, 0, [], Nat.zero_le _, rfl, rfl, rfl, Nat.le_refl _, by omega, ⟨rfl, fun j hj => absurd hj (Nat.not_lt_zero _)⟩, R1.out, B1.out⟩
  case round =>
    clear R1 B1
    obtain ⟨c, f, i0, o0, L, hc, rfl, rfl, rfl, hio, hic, SQ, RR, BR⟩ := hrel
    by_cases hlt : c < len1
    · obtain ⟨ob, oo, rfl, hget⟩ := (HL.out.keep BR.out).get (show c < ls.length by rw [LL.out]; exact hlt)
      have hcell := hget c (by rw [LL.out]; exact hlt)
      obtain ⟨x, ex⟩ : ∃ x, Ls.nth ls c = x := ⟨_, rfl⟩
      rw [ex] at hcell
      clear hget ex
      go_wp2
      go_loopw [7] (fun z wq => ∃ (i1 : Nat) (L1 : List Int), z = .int .i64 i1 ∧ o0 ≤ i1 ∧ i1 - o0 ≤ n ∧ i1 ≤ i0 + (n - (i0 - o0)) ∧ Hid (L1.length = i1 - o0 ∧ ∀ j, j < L1.length → Ls.nth L1 j = ((o0 + j : Nat) : Int)) ∧ Hid (Rn.RingAt wq g q n f L1) ∧ Hid (Below w.heap.size w wq)) (fun z _ => (o0 + n) - (intOf z).toNat)
      case atStart => exact ⟨i0, L, rfl, hio, by have := RR.out.nums.1; have := SQ.out.1; omega, by omega, SQ.out, RR.out, BR.out⟩
      case round =>
        clear RR BR SQ
        obtain ⟨i1, L1, rfl, h1, h2, h3, SQ, RR, BR⟩ := hrel
        by_cases hfull : i1 - o0 < n
        · have dd : decide ((n : Int) < (i1 : Int) + 1 - o0) = false := decide_eq_false (by omega)
          go_wp2_with (go_at_call 14; refine (Rn.push_ok g q n f i1 L1 _ RR.out (by have := SQ.out.1; omega)).mono ?_; rintro e w3 ⟨rfl, hr, hb⟩; have R3 : Hid (Rn.RingAt w3 g q n f (L1 ++ [(i1 : Int)])) := hr; have B3 : Hid (Below w.heap.size w w3) := BR.out.trans (hb.below GQ.out.1 GQ.out.2 BR.out.size); clear hr hb)
          go_roundw
          case rel =>
            refine ⟨i1 + 1, L1 ++ [(i1 : Int)], by go_num, by omega, by omega, by omega, ⟨?_, fun j hj => ?_⟩, R3.out, B3.out⟩
            · simp; have := SQ.out.1; omega
            · simp at hj
              have := SQ.out.1
              by_cases e : j < L1.length
              · rw [Ls.nth_append_left e]; exact SQ.out.2 j e
              · rw [Ls.nth_append_at (by omega)]; congr 1; omega
          case measure => simp [intOf]; omega
        · have ei : i1 = o0 + n := by omega
          subst ei
          have LN : Hid (L1.length = n) := by have := SQ.out.1; show _ = _; omega
          have hi : o0 + n ≤ 60 * (c + 1) := by omega
          go_wp2_with fail
          refine (Rn.push_full g q n f _ L1 _ RR.out LN.out).mono ?_
          rintro e w3 ⟨rfl, z, hz⟩
          have R3 : Hid (Rn.RingAt w3 g q n f L1) := by rw [hz]; exact RR.out.keep (Rn.below_drewN (Below.refl _ _) _)
          have B3 : Hid (Below w.heap.size w w3) := by rw [hz]; exact Rn.below_drewN BR.out _
          clear hz hcell
          by_cases hs : x < 1 ∨ n < x
          · have HS : Hid (x < 1 ∨ (L1.length : Int) < x) := by rw [LN.out]; exact hs
            obtain ⟨q1, eq1⟩ : ∃ q, decide (1 ≤ x) = q := ⟨_, rfl⟩
            obtain ⟨q2, eq2⟩ : ∃ q, decide (x ≤ n) = q := ⟨_, rfl⟩
            have hq : q1 = false ∨ (q1 = true ∧ q2 = false) := by
              by_cases e : 1 ≤ x
              · exact .inr ⟨by rw [← eq1]; exact decide_eq_true e, by rw [← eq2]; exact decide_eq_false (by omega)⟩
              · exact .inl (by rw [← eq1]; exact decide_eq_false e)
            clear hs
            rcases hq with rfl | ⟨rfl, rfl⟩
            all_goals
              go_wp2_with (go_at_call 15; refine (Rn.shift_no g q n f x L1 _ R3.out HS.out).mono ?_; rintro e w4 ⟨rfl, hb⟩; have R4 : Hid (Rn.RingAt w4 g q n f L1) := R3.out.keep hb; have B4 : Hid (Below w.heap.size w w4) := below_then B3.out hb; clear hb)
              go_loopw [8, 83] (fun y i wq => i = .int .i64 0 ∧ y = .int .i64 o0 ∧ Hid (Rn.RingAt wq g q n f L1) ∧ Hid (Below w.heap.size w wq)) (fun _ _ _ => 0)
              case atStart => exact ⟨rfl, rfl, R4.out, B4.out⟩
              case round =>
                clear R4 B4
                obtain ⟨rfl, rfl, R4, B4⟩ := hrel
                go_wp2_with (go_at_call 10; refine (Rn.len_any g q n f n _ (by have := R4.out.hd; rw [LN.out] at this; exact this)).mono ?_; rintro e w' ⟨rfl, hww⟩; cases hww.symm; clear hww)
                go_roundw
                case rel => exact ⟨c + 1, f, o0 + n, o0, L1, by omega, by go_num, by go_num, rfl, by omega, by omega, SQ.out, R4.out, B4.out⟩
                case measure => simp [intOf]; omega
          · obtain ⟨k, rfl⟩ : ∃ k : Nat, x = k := ⟨x.toNat, by omega⟩
            have hk1 : 1 ≤ k := by omega
            have hkn : k ≤ n := by omega
            obtain ⟨p, ep⟩ : ∃ p, Rn.pl f n k = p := ⟨_, rfl⟩
            have EP : Hid (Rn.pl f n k = p) := ep
            clear ep hs
            go_wp2_with (go_at_call 15; refine (Rn.shift_yes g q n f k p L1 _ R3.out hk1 (by have := LN.out; omega) EP.out).mono ?_; rintro e w4 ⟨s, rfl, _, hs, hr, hb⟩; have S4 : Hid (Lst .i64 w4 (some ⟨s, 0, none⟩) (L1.take k)) := hs; have R4 : Hid (Rn.RingAt w4 g q n p (L1.drop k)) := hr; have B4 : Hid (Below w.heap.size w w4) := B3.out.trans (hb.below GQ.out.1 GQ.out.2 B3.out.size); clear hb hs hr)
            have lt : Hid ((L1.take k).length = k) := by show _ = _; rw [List.length_take]; have := LN.out; omega
            go_loop [8, 83] (fun y i => ∃ y0 : Nat, y0 ≤ k ∧ i = .int .i64 y0 ∧ y = .int .i64 ((o0 + y0 : Nat) : Int)) (fun _ i => k - (intOf i).toNat)
            case atStart => exact ⟨0, Nat.zero_le _, rfl, by simp⟩
            case round =>
              obtain ⟨y0, hy, rfl, rfl⟩ := hrel
              by_cases hlt2 : y0 < k
              · have hc0 := S4.out.cell0 (i := y0) (by rw [lt.out]; exact hlt2)
                rw [Ls.nth_take hlt2, SQ.out.2 y0 (by have := LN.out; omega)] at hc0
                obtain ⟨t, et⟩ : ∃ t, o0 + y0 = t := ⟨_, rfl⟩
                have ET : Hid (o0 + y0 = t) := et
                have ht : t ≤ 10000 := by omega
                rw [et] at hc0 ⊢
                clear et
                go_wp2
                go_round
                case rel => exact ⟨y0 + 1, by omega, by go_num, by rw [show o0 + (y0 + 1) = t + 1 by have := ET.out; omega]; go_num⟩
                case measure => simp [intOf]; omega
              · have ey : y0 = k := by omega
                subst ey
                obtain ⟨t, et⟩ : ∃ t, o0 + y0 = t := ⟨_, rfl⟩
                have ET : Hid (o0 + y0 = t) := et
                have ht : t ≤ 10000 := by omega
                have hty : ((n - y0 : Nat) : Int) = ((o0 + n : Nat) : Int) - t := by omega
                rw [et]
                clear et
                go_wp2_with (go_at_call 10; refine (Rn.len_any g q n p (n - y0) _ (by have := R4.out.hd; rw [List.length_drop, LN.out] at this; exact this)).mono ?_; rintro e w' ⟨rfl, hww⟩; cases hww.symm; clear hww)
                all_goals
                  go_roundw
                  case rel =>
                    refine ⟨c + 1, p, o0 + n, t, L1.drop y0, by omega, by go_num, by go_num, rfl, by omega, by omega, ⟨?_, fun j hj => ?_⟩, R4.out, B4.out⟩
                    · rw [List.length_drop, LN.out]; have := ET.out; omega
                    · rw [List.length_drop, LN.out] at hj
                      rw [Ls.nth_drop, SQ.out.2 (y0 + j) (by have := LN.out; omega)]
                      congr 1
                      have := ET.out
                      omega
                  case measure => simp [intOf]; omega
    · have ec : c = len1 := by omega
      subst ec
      go_wp2_with (go_at_call 7; refine (Rn.awake_any _).mono ?_; rintro e w9 ⟨rfl, hb9⟩; have Z9 : Hid (Below wr.heap.size wr w9) := hb9; clear hb9)
      go_ret
      exact ⟨rfl, below_then BR.out Z9.out⟩

set_option maxRecDepth 100000 in
theorem lifted (os : Os) (started : os.Started) (H : Type) (enc : TypeId × Value → H) :
    ReturnsInHanded {} Try.checked os 4 .any (Rows.ringFlowsSpec.pre6 enc Try.prog Try.f4 Rows.ringFlowsRow.domain false) (Rows.ringFlowsSpec.post enc Try.prog Try.f4 false true false false) := by
  refine returnsInHanded_of_change (C := Try.checked) own started (by kernel_rfl) Try.func4
    (ChangeSpec.witness6 (enc := enc) (C := Try.checked) false ⟨#[], #[.int .i64 0, .slice none 0 0], []⟩ 8 (by kernel_rfl) (by kernel_rfl) (by kernel_rfl) (by kernel_rfl)) ?_
  intro W base args ds gs before hval0 hW hcnd _
  have hval : ∀ (j : Nat) t v, Try.f4.params[j]? = some t → args[j]? = some v → Value.okWide Try.prog W .any base t v := hval0
  have hW' := hW
  obtain ⟨p, q, hA0, hV, rfl, hfz, hnd⟩ := hW
  have hA : DataW.TrodAll enc Try.prog W 0 (fun _ => true) true Try.f4.params.toList args.toList ds p := hA0
  rw [Try.params4] at hA hval
  obtain ⟨v0, vs0, d0, ds0, p0, q0, hargs, rfl, rfl, h0, r0⟩ := trodAll_cons hA
  obtain ⟨v1, vs1, d1, ds1, p1, q1, rfl, rfl, rfl, h1, r1⟩ := trodAll_cons r0
  obtain ⟨rfl, rfl, rfl⟩ := trodAll_nil r1
  obtain rfl : args = #[v0, v1] := by cases args; simp_all
  obtain ⟨rfl, rfl⟩ := trodVars_none hV
  obtain ⟨a0, rfl, rfl, rfl, w0⟩ := open_int Try.underlying3 (hval 0 3 v0 rfl rfl) h0
  obtain ⟨a1, len1, cap1, rfl⟩ := okWide_slice Try.underlying28 (hval 1 28 v1 rfl rfl)
  have k1 := h1
  have lt1 : ∀ x ∈ p1, x.block < W.heap.size := by obtain ⟨m, hm⟩ := k1; exact DataW.trod_lt m _ _ _ hm
  obtain ⟨z1, w1⟩ : ∃ zs, IsRow .i64 W a1 len1 cap1 zs := by
    obtain ⟨fuel, hf⟩ := h1
    rcases open_ints Try.underlying28 Try.underlying3 (by kernel_rfl) hf with ⟨hcs, _⟩ | ⟨x, l, c, zs, hcs, _, hl, hm, hz, _, hcell, hwz⟩
    · simp [Value.cells] at hcs
      obtain ⟨rfl, rfl, rfl⟩ := hcs
      exact ⟨[], .inl ⟨rfl, rfl, rfl, rfl⟩⟩
    · simp [Value.cells] at hcs
      obtain ⟨rfl, rfl, rfl⟩ := hcs
      exact ⟨zs, .inr ⟨_, rfl, hl, hm, by simpa using hz, hcell, hwz⟩⟩
  clear hA0 hval0
  refine (walk a0 a1 len1 cap1 z1 W w0 w1).mono fun e W' ⟨he, bel⟩ => ?_
  subst he
  exact ⟨_, rfl, _, _, _, [], _, [], hW', trodAll_mk1 (shut_bool Try.underlying4 _), (trodAll_cons_mk (shut_int Try.underlying3 w0) (trodAll_cons_mk (Below.trod laidOut (by kernel_rfl) (of_decide_eq_true (by kernel_rfl)) k1 bel lt1) trodAll_mk0)), rfl, bel.frame _, fun h => by cases h⟩

theorem over : Rows.ringFlowsRow.holds Try.pinned (OpenSpec.ofChange Rows.ringFlowsSpec) :=
  OpenClaim.holds_of_wide 4 Try.f4 rfl rfl rfl rfl rfl rfl rfl ⟨rfl, rfl, rfl, rfl, rfl⟩ rfl rfl rfl rfl rfl (by kernel_rfl) Try.func4 (by kernel_rfl)
    (of_decide_eq_true (by kernel_rfl)) (by unfold Func.isWrapper; first | (rw [if_pos (by decide +kernel)]; kernel_rfl) | (rw [if_neg (by decide +kernel)]; exact ⟨rfl, rfl⟩))
    (fun os started H enc _ => lifted os started H enc)

theorem proved : Rows.RingFlowsSaid := over
end Go.Proofs.Ytgjghnbhpnflfaa.ringFlows

namespace Go.Proofs.Ytgjghnbhpnflfaa
theorem ringFlows_holds : Rows.RingFlowsSaid := ringFlows.proved
#print axioms ringFlows_holds
end Go.Proofs.Ytgjghnbhpnflfaa
