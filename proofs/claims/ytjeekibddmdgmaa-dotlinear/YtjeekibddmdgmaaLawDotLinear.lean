/- Within what no cut touches the sum with a list that is a sum is the sum of both: DotLinear answers true for every input. -/
import Derived.Test.YtjeekibddmdgmaaRows
import Derived.Test.YtjeekibddmdgmaaDtAwake
import Derived.Deep.RegionWith
import Derived.WalkKit
import Derived.ProofKit
import Derived.OpenShut
import Derived.ShutString
import Derived.ChangeOld
import Derived.Below
namespace Go.Proofs.Ytjeekibddmdgmaa.dotLinear
open Go.ChangeShapes Go.WideShapes Go.ChangeAt Go.RowKit
open Go.ChangeMaps (open_string shut_string)
set_option linter.unusedVariables false

theorem own : ownKnob Try.prog.godebug = none := by kernel_rfl
theorem laidOut : laidOutB Try.prog = true := by kernel_rfl

/-- WHAT THE WALK IS TOLD OF A SLICE OF INTEGERS THAT CAME IN: it is nil; or it leads to a row of 'cap' cells, the numbers 'zs' (the first 'len' are its elements, the rest its spare room), each fitting its kind. -/
def IsRow (k : IntKind) (w : World) (a : Option Addr) (len cap : Nat) (zs : List Int) : Prop :=
  (a = none ∧ len = 0 ∧ cap = 0 ∧ zs = []) ∨
  ∃ x, a = some x ∧ len ≤ cap ∧ cap ≤ maxLen ∧ zs.length = cap ∧ (∀ i, i < zs.length → w.cell? (x.add i) = some (.int k (zs.getD i 0))) ∧ ∀ n ∈ zs, (Lit.int k n).wf = true

set_option maxHeartbeats 1600000 in
theorem walk (a0 : Option Addr) (len0 cap0 : Nat) (z0 : List Int) (a1 : Option Addr) (len1 cap1 : Nat) (z1 : List Int) (a2 : Option Addr) (len2 cap2 : Nat) (z2 : List Int) (w : World) (w0 : IsRow .i32 w a0 len0 cap0 z0) (w1 : IsRow .i32 w a1 len1 cap1 z1) (w2 : IsRow .i32 w a2 len2 cap2 z2) :
    Calls Try.prog 7 #[.slice a0 len0 cap0, .slice a1 len1 cap1, .slice a2 len2 cap2] w fun e w' => e = .returned (.bool true) ∧ Below w.heap.size w w' := by
  obtain ⟨x, hx, LX, IX, MX, CX, DX, _⟩ := row_open w0
  obtain ⟨y, hy, LY, IY, MY, CY, DY, _⟩ := row_open w1
  obtain ⟨z, hz, LZ, IZ, MZ, CZ, DZ, _⟩ := row_open w2
  subst hx hy hz
  have HX : Hid (Lst .i32 w a0 x) := LX
  have HY : Hid (Lst .i32 w a1 y) := LY
  have HZ : Hid (Lst .i32 w a2 z) := LZ
  have JX : Hid (Ls.In32 x) := IX
  have JY : Hid (Ls.In32 y) := IY
  clear w0 w1 w2 LX LY LZ MX MY MZ IX IY IZ DX DY DZ CX CY CZ
  by_cases hl : x.length = y.length
  · by_cases hl2 : x.length = z.length
    · by_cases hm : 1024 < x.length
      · clear hl hl2
        go_enter Try.func7, Try.ntmps7
        go_wp2_with (go_at_call 10; refine (dtAwake_any _).mono ?_; rintro e w2 ⟨rfl, hb⟩)
        all_goals
          go_ret
          exact ⟨rfl, hb⟩
      · have E1 : Hid (x.length = y.length) := hl
        have E2 : Hid (x.length = z.length) := hl2
        have g1 : x.length ≤ y.length := by omega
        have g2 : y.length ≤ x.length := by omega
        have g3 : x.length ≤ z.length := by omega
        have g4 : z.length ≤ x.length := by omega
        have g5 : x.length ≤ 1024 := by omega
        clear hl hl2 hm
        go_enter Try.func7, Try.ntmps7
        go_wp2_with (go_at_call 10; refine (dtAwake_any _).mono ?_; rintro e w2 ⟨rfl, hb⟩)
        go_loop [36] (fun i => ∃ k : Nat, k ≤ x.length ∧ i = .int .i64 k ∧ ∀ j, j < k → (-4194304 ≤ Ls.nth x j ∧ Ls.nth x j ≤ 4194304) ∧ (-4194304 ≤ Ls.nth y j ∧ Ls.nth y j ≤ 4194304) ∧ (-16777216 ≤ Ls.nth z j ∧ Ls.nth z j ≤ 16777216)) (fun i => x.length - (intOf i).toNat)
        case atStart => exact ⟨0, Nat.zero_le _, rfl, fun j hj => by omega⟩
        case round =>
          obtain ⟨k, hk, rfl, hm⟩ := hrel
          have HM : Hid (∀ j, j < k → (-4194304 ≤ Ls.nth x j ∧ Ls.nth x j ≤ 4194304) ∧ (-4194304 ≤ Ls.nth y j ∧ Ls.nth y j ≤ 4194304) ∧ (-16777216 ≤ Ls.nth z j ∧ Ls.nth z j ≤ 16777216)) := hm
          clear hm
          by_cases hlt : k < x.length
          · obtain ⟨b1, o1, rfl, hc1⟩ := HX.out.get hlt
            obtain ⟨b2, o2, rfl, hc2⟩ := HY.out.get (show k < y.length by omega)
            obtain ⟨b3, o3, rfl, hc3⟩ := HZ.out.get (show k < z.length by omega)
            have hck1 := hc1 k hlt
            have hck2 := hc2 k (by omega)
            have hck3 := hc3 k (by omega)
            have i1 : (k : Int) < (y.length : Int) := by omega
            have i2 : (k : Int) < (z.length : Int) := by omega
            clear hc1 hc2 hc3
            by_cases c1 : 4194304 < Ls.nth x k
            · go_wp2_with (go_at_call 10; refine (dtAwake_any _).mono ?_; rintro e w2 ⟨rfl, hb⟩)
              go_ret
              exact ⟨rfl, hb⟩
            by_cases c2 : Ls.nth x k < -4194304
            · go_wp2_with (go_at_call 10; refine (dtAwake_any _).mono ?_; rintro e w2 ⟨rfl, hb⟩)
              go_ret
              exact ⟨rfl, hb⟩
            by_cases c3 : 4194304 < Ls.nth y k
            · go_wp2_with (go_at_call 10; refine (dtAwake_any _).mono ?_; rintro e w2 ⟨rfl, hb⟩)
              go_ret
              exact ⟨rfl, hb⟩
            by_cases c4 : Ls.nth y k < -4194304
            · go_wp2_with (go_at_call 10; refine (dtAwake_any _).mono ?_; rintro e w2 ⟨rfl, hb⟩)
              go_ret
              exact ⟨rfl, hb⟩
            by_cases c5 : 16777216 < Ls.nth z k
            · go_wp2_with (go_at_call 10; refine (dtAwake_any _).mono ?_; rintro e w2 ⟨rfl, hb⟩)
              go_ret
              exact ⟨rfl, hb⟩
            by_cases c6 : Ls.nth z k < -16777216
            · go_wp2_with (go_at_call 10; refine (dtAwake_any _).mono ?_; rintro e w2 ⟨rfl, hb⟩)
              go_ret
              exact ⟨rfl, hb⟩
            go_wp2
            go_round
            case rel =>
              refine ⟨k + 1, by omega, by go_num, fun j hj => ?_⟩
              by_cases e : j = k
              · subst e; omega
              · exact HM.out j (by omega)
            case measure => simp [intOf]; omega
          · have e : k = x.length := by omega
            subst e
            have mz : Hid (Ls.mild z = true) := Ls.mild_mk (by omega) (fun i hi => (HM.out i (by omega)).2.2)
            have mx : Hid (Ls.mild x = true) := Ls.mild_mk (by omega) (fun i hi => by have := (HM.out i (by omega)).1; omega)
            have my : Hid (Ls.mild y = true) := Ls.mild_mk (by omega) (fun i hi => by have := (HM.out i (by omega)).2.1; omega)
            have hda : Hid (Ls.dot (Ls.add x y) z = Ls.dot x z + Ls.dot y z) := Ls.dot_add E1.out (fun i hi => by have := HM.out i hi; omega)
            have B1 := Ls.dotN_bd mx.out mz.out x.length
            have B2 := Ls.dotN_bd my.out mz.out y.length
            have P1 : Ls.dot x z ≤ 288230376151711744 := by unfold Ls.dot; omega
            have P2 : -288230376151711744 ≤ Ls.dot x z := by unfold Ls.dot; omega
            have Q1 : Ls.dot y z ≤ 288230376151711744 := by unfold Ls.dot; omega
            have Q2 : -288230376151711744 ≤ Ls.dot y z := by unfold Ls.dot; omega
            clear B1 B2 HM
            go_wp2_with fail
            refine (add_ok _ _ _ _ _ _ _ HX.out HY.out E1.out g5 JX.out JY.out).mono ?_
            rintro e v1 ⟨g, rfl, _, hL, hB⟩
            have HL : Hid (Lst .i32 v1 (some ⟨g, 0, none⟩) (Ls.add x y)) := hL
            have HB : Hid (Below w.heap.size w v1) := hB
            clear hL hB
            go_wp2_with fail
            refine (dot_okm _ _ _ _ _ _ _ _ _ (Ls.add_length x y).symm rfl HL.out (HZ.out.keep HB.out) (by rw [Ls.add_length]; exact E2.out) (Ls.add_mild g5) mz.out).mono ?_
            rintro e v2 ⟨rfl, hv2⟩
            have HB2 : Hid (Below w.heap.size w v2) := by show Below _ _ _; rw [hv2]; exact HB.out
            rw [hda.out]
            clear hv2 HL HB
            go_wp2_with fail
            refine (dot_ok _ _ _ _ _ _ _ (HX.out.keep HB2.out) (HZ.out.keep HB2.out) E2.out mx.out mz.out).mono ?_
            rintro e v3 ⟨rfl, hv3⟩
            have HB3 : Hid (Below w.heap.size w v3) := by show Below _ _ _; rw [hv3]; exact HB2.out
            clear hv3 HB2
            go_wp2_with fail
            refine (dot_ok _ _ _ _ _ _ _ (HY.out.keep HB3.out) (HZ.out.keep HB3.out) (E1.out.symm.trans E2.out) my.out mz.out).mono ?_
            rintro e v4 ⟨rfl, hv4⟩
            have HB4 : Hid (Below w.heap.size w v4) := by show Below _ _ _; rw [hv4]; exact HB3.out
            clear hv4 HB3
            go_wp2_with (go_at_call 10; refine (dtAwake_any _).mono ?_; rintro e w2 ⟨rfl, hb⟩)
            go_ret
            exact ⟨rfl, below_then HB4.out hb⟩
    · go_enter Try.func7, Try.ntmps7
      go_wp2_with (go_at_call 10; refine (dtAwake_any _).mono ?_; rintro e w2 ⟨rfl, hb⟩)
      go_ret
      exact ⟨rfl, hb⟩
  · go_enter Try.func7, Try.ntmps7
    go_wp2_with (go_at_call 10; refine (dtAwake_any _).mono ?_; rintro e w2 ⟨rfl, hb⟩)
    go_ret
    exact ⟨rfl, hb⟩

set_option maxRecDepth 100000 in
theorem lifted (os : Os) (started : os.Started) (H : Type) (enc : TypeId × Value → H) :
    ReturnsInHanded {} Try.checked os 7 .any (Rows.dotLinearSpec.pre6 enc Try.prog Try.f7 Rows.dotLinearRow.domain false) (Rows.dotLinearSpec.post enc Try.prog Try.f7 false true false false) := by
  refine returnsInHanded_of_change (C := Try.checked) own started (by kernel_rfl) Try.func7
    (ChangeSpec.witness6 (enc := enc) (C := Try.checked) false ⟨#[], #[.slice none 0 0, .slice none 0 0, .slice none 0 0], []⟩ 8 (by kernel_rfl) (by kernel_rfl) (by kernel_rfl) (by kernel_rfl)) ?_
  intro W base args ds gs before hval0 hW hcnd _
  have hval : ∀ (j : Nat) t v, Try.f7.params[j]? = some t → args[j]? = some v → Value.okWide Try.prog W .any base t v := hval0
  have hW' := hW
  obtain ⟨p, q, hA0, hV, rfl, hfz, hnd⟩ := hW
  have hA : DataW.TrodAll enc Try.prog W 0 (fun _ => true) true Try.f7.params.toList args.toList ds p := hA0
  rw [Try.params7] at hA hval
  obtain ⟨v0, vs0, d0, ds0, p0, q0, hargs, rfl, rfl, h0, r0⟩ := trodAll_cons hA
  obtain ⟨v1, vs1, d1, ds1, p1, q1, rfl, rfl, rfl, h1, r1⟩ := trodAll_cons r0
  obtain ⟨v2, vs2, d2, ds2, p2, q2, rfl, rfl, rfl, h2, r2⟩ := trodAll_cons r1
  obtain ⟨rfl, rfl, rfl⟩ := trodAll_nil r2
  obtain rfl : args = #[v0, v1, v2] := by cases args; simp_all
  obtain ⟨rfl, rfl⟩ := trodVars_none hV
  obtain ⟨a0, len0, cap0, rfl⟩ := okWide_slice Try.underlying22 (hval 0 22 v0 rfl rfl)
  have k0 := h0
  have lt0 : ∀ x ∈ p0, x.block < W.heap.size := by obtain ⟨m, hm⟩ := k0; exact DataW.trod_lt m _ _ _ hm
  obtain ⟨z0, w0⟩ : ∃ zs, IsRow .i32 W a0 len0 cap0 zs := by
    obtain ⟨fuel, hf⟩ := h0
    rcases open_ints Try.underlying22 Try.underlying21 (by kernel_rfl) hf with ⟨hcs, _⟩ | ⟨x, l, c, zs, hcs, _, hl, hm, hz, _, hcell, hwz⟩
    · simp [Value.cells] at hcs
      obtain ⟨rfl, rfl, rfl⟩ := hcs
      exact ⟨[], .inl ⟨rfl, rfl, rfl, rfl⟩⟩
    · simp [Value.cells] at hcs
      obtain ⟨rfl, rfl, rfl⟩ := hcs
      exact ⟨zs, .inr ⟨_, rfl, hl, hm, by simpa using hz, hcell, hwz⟩⟩
  obtain ⟨a1, len1, cap1, rfl⟩ := okWide_slice Try.underlying22 (hval 1 22 v1 rfl rfl)
  have k1 := h1
  have lt1 : ∀ x ∈ p1, x.block < W.heap.size := by obtain ⟨m, hm⟩ := k1; exact DataW.trod_lt m _ _ _ hm
  obtain ⟨z1, w1⟩ : ∃ zs, IsRow .i32 W a1 len1 cap1 zs := by
    obtain ⟨fuel, hf⟩ := h1
    rcases open_ints Try.underlying22 Try.underlying21 (by kernel_rfl) hf with ⟨hcs, _⟩ | ⟨x, l, c, zs, hcs, _, hl, hm, hz, _, hcell, hwz⟩
    · simp [Value.cells] at hcs
      obtain ⟨rfl, rfl, rfl⟩ := hcs
      exact ⟨[], .inl ⟨rfl, rfl, rfl, rfl⟩⟩
    · simp [Value.cells] at hcs
      obtain ⟨rfl, rfl, rfl⟩ := hcs
      exact ⟨zs, .inr ⟨_, rfl, hl, hm, by simpa using hz, hcell, hwz⟩⟩
  obtain ⟨a2, len2, cap2, rfl⟩ := okWide_slice Try.underlying22 (hval 2 22 v2 rfl rfl)
  have k2 := h2
  have lt2 : ∀ x ∈ p2, x.block < W.heap.size := by obtain ⟨m, hm⟩ := k2; exact DataW.trod_lt m _ _ _ hm
  obtain ⟨z2, w2⟩ : ∃ zs, IsRow .i32 W a2 len2 cap2 zs := by
    obtain ⟨fuel, hf⟩ := h2
    rcases open_ints Try.underlying22 Try.underlying21 (by kernel_rfl) hf with ⟨hcs, _⟩ | ⟨x, l, c, zs, hcs, _, hl, hm, hz, _, hcell, hwz⟩
    · simp [Value.cells] at hcs
      obtain ⟨rfl, rfl, rfl⟩ := hcs
      exact ⟨[], .inl ⟨rfl, rfl, rfl, rfl⟩⟩
    · simp [Value.cells] at hcs
      obtain ⟨rfl, rfl, rfl⟩ := hcs
      exact ⟨zs, .inr ⟨_, rfl, hl, hm, by simpa using hz, hcell, hwz⟩⟩
  clear hA0 hval0
  refine (walk a0 len0 cap0 z0 a1 len1 cap1 z1 a2 len2 cap2 z2 W w0 w1 w2).mono fun e W' ⟨he, bel⟩ => ?_
  subst he
  exact ⟨_, rfl, _, _, _, [], _, [], hW', trodAll_mk1 (shut_bool Try.underlying4 _), (trodAll_cons_mk (Below.trod laidOut (by kernel_rfl) (of_decide_eq_true (by kernel_rfl)) k0 bel lt0) (trodAll_cons_mk (Below.trod laidOut (by kernel_rfl) (of_decide_eq_true (by kernel_rfl)) k1 bel lt1) (trodAll_cons_mk (Below.trod laidOut (by kernel_rfl) (of_decide_eq_true (by kernel_rfl)) k2 bel lt2) trodAll_mk0))), rfl, bel.frame _, fun h => by cases h⟩

theorem over : Rows.dotLinearRow.holds Try.pinned (OpenSpec.ofChange Rows.dotLinearSpec) :=
  OpenClaim.holds_of_wide 7 Try.f7 rfl rfl rfl rfl rfl rfl rfl ⟨rfl, rfl, rfl, rfl, rfl⟩ rfl rfl rfl rfl rfl (by kernel_rfl) Try.func7 (by kernel_rfl)
    (of_decide_eq_true (by kernel_rfl)) (by unfold Func.isWrapper; first | (rw [if_pos (by decide +kernel)]; kernel_rfl) | (rw [if_neg (by decide +kernel)]; exact ⟨rfl, rfl⟩))
    (fun os started H enc _ => lifted os started H enc)

theorem proved : Rows.DotLinearSaid := over
end Go.Proofs.Ytjeekibddmdgmaa.dotLinear

namespace Go.Proofs.Ytjeekibddmdgmaa
theorem dotLinear_holds : Rows.DotLinearSaid := dotLinear.proved
#print axioms dotLinear_holds
end Go.Proofs.Ytjeekibddmdgmaa
