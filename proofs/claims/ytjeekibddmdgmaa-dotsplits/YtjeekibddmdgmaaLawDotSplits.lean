/- The sum of two lists is that of their first parts and that of what is left, whichever comes first: DotSplits answers true for every input. -/
import Derived.Test.YtjeekibddmdgmaaRows
import Derived.Test.YtjeekibddmdgmaaDtAwake
import Derived.Deep.RegionWith
import Derived.WalkKit
import Derived.ProofKit
import Derived.OpenShut
import Derived.ShutString
import Derived.ChangeOld
import Derived.Below
namespace Go.Proofs.Ytjeekibddmdgmaa.dotSplits
open Go.ChangeShapes Go.WideShapes Go.ChangeAt Go.RowKit
open Go.ChangeMaps (open_string shut_string)
set_option linter.unusedVariables false

theorem own : ownKnob Try.prog.godebug = none := by kernel_rfl
theorem laidOut : laidOutB Try.prog = true := by kernel_rfl

/-- WHAT THE WALK IS TOLD OF A SLICE OF INTEGERS THAT CAME IN: it is nil; or it leads to a row of 'cap' cells, the numbers 'zs' (the first 'len' are its elements, the rest its spare room), each fitting its kind. -/
def IsRow (k : IntKind) (w : World) (a : Option Addr) (len cap : Nat) (zs : List Int) : Prop :=
  (a = none ∧ len = 0 ∧ cap = 0 ∧ zs = []) ∨
  ∃ x, a = some x ∧ len ≤ cap ∧ cap ≤ maxLen ∧ zs.length = cap ∧ (∀ i, i < zs.length → w.cell? (x.add i) = some (.int k (zs.getD i 0))) ∧ ∀ n ∈ zs, (Lit.int k n).wf = true

set_option maxHeartbeats 800000 in
theorem walk (a0 : Option Addr) (len0 cap0 : Nat) (z0 : List Int) (a1 : Option Addr) (len1 cap1 : Nat) (z1 : List Int) (a2 : Int) (w : World) (w0 : IsRow .i32 w a0 len0 cap0 z0) (w1 : IsRow .i32 w a1 len1 cap1 z1) (w2 : (Lit.int .i64 a2).wf = true) :
    Calls Try.prog 5 #[.slice a0 len0 cap0, .slice a1 len1 cap1, .int .i64 a2] w fun e w' => e = .returned (.bool true) ∧ Below w.heap.size w w' := by
  obtain ⟨x, hx, LX, IX, MX, CX, DX, _⟩ := row_open w0
  obtain ⟨y, hy, LY, IY, MY, CY, DY, _⟩ := row_open w1
  subst hx hy
  have b2 := bounds_i64 w2
  have HX : Hid (Lst .i32 w a0 x) := LX
  have HY : Hid (Lst .i32 w a1 y) := LY
  have NX : Hid (x.length ≤ maxLen) := MX
  have NY : Hid (y.length ≤ maxLen) := MY
  clear w0 w1 w2 LX LY MX MY IX IY DX DY
  by_cases hl : x.length = y.length
  · have HLL : Hid (x.length = y.length) := hl
    have hl1 : x.length ≤ y.length := by omega
    have hl2 : y.length ≤ x.length := by omega
    clear hl
    by_cases hm : 1024 < x.length
    · go_enter Try.func5, Try.ntmps5
      go_wp2_with (go_at_call 10; refine (dtAwake_any _).mono ?_; rintro e w2 ⟨rfl, hb⟩)
      go_ret
      exact ⟨rfl, hb⟩
    · cases mx : Ls.mild x
      · go_enter Try.func5, Try.ntmps5
        go_wp2_with (first
          | (go_at_call 11; refine (refMild_any _ _ _ _ HX.out NX.out).mono ?_; rintro e w' ⟨rfl, rfl⟩)
          | (go_at_call 10; refine (dtAwake_any _).mono ?_; rintro e w2 ⟨rfl, hb⟩))
        go_ret
        exact ⟨rfl, hb⟩
      · cases my : Ls.mild y
        · go_enter Try.func5, Try.ntmps5
          go_wp2_with (first
            | (go_at_call_of 11 (x); refine (refMild_any _ _ _ _ HX.out NX.out).mono ?_; rintro e w' ⟨rfl, rfl⟩)
            | (go_at_call_of 11 (y); refine (refMild_any _ _ _ _ HY.out NY.out).mono ?_; rintro e w' ⟨rfl, rfl⟩)
            | (go_at_call 10; refine (dtAwake_any _).mono ?_; rintro e w2 ⟨rfl, hb⟩))
          go_ret
          exact ⟨rfl, hb⟩
        · by_cases h0 : a2 < 0
          · go_enter Try.func5, Try.ntmps5
            go_wp2_with (first
              | (go_at_call_of 11 (x); refine (refMild_any _ _ _ _ HX.out NX.out).mono ?_; rintro e w' ⟨rfl, rfl⟩)
              | (go_at_call_of 11 (y); refine (refMild_any _ _ _ _ HY.out NY.out).mono ?_; rintro e w' ⟨rfl, rfl⟩)
              | (go_at_call 10; refine (dtAwake_any _).mono ?_; rintro e w2 ⟨rfl, hb⟩))
            go_ret
            exact ⟨rfl, hb⟩
          · by_cases h1 : (x.length : Int) < a2
            · go_enter Try.func5, Try.ntmps5
              go_wp2_with (first
                | (go_at_call_of 11 (x); refine (refMild_any _ _ _ _ HX.out NX.out).mono ?_; rintro e w' ⟨rfl, rfl⟩)
                | (go_at_call_of 11 (y); refine (refMild_any _ _ _ _ HY.out NY.out).mono ?_; rintro e w' ⟨rfl, rfl⟩)
                | (go_at_call 10; refine (dtAwake_any _).mono ?_; rintro e w2 ⟨rfl, hb⟩))
              go_ret
              exact ⟨rfl, hb⟩
            · obtain ⟨t, rfl⟩ := Int.eq_ofNat_of_zero_le (show 0 ≤ a2 by omega)
              have ht : t ≤ x.length := by omega
              have KX : Hid (Ls.mild x = true) := mx
              have KY : Hid (Ls.mild y = true) := my
              go_enter Try.func5, Try.ntmps5
              go_wp2_with (first
                | (go_at_call_of 11 (x); refine (refMild_any _ _ _ _ HX.out NX.out).mono ?_; rintro e w' ⟨rfl, rfl⟩)
                | (go_at_call_of 11 (y); refine (refMild_any _ _ _ _ HY.out NY.out).mono ?_; rintro e w' ⟨rfl, rfl⟩))
              refine (dot_ok _ _ _ _ _ _ _ HX.out HY.out HLL.out KX.out KY.out).mono ?_
              rintro e w' ⟨rfl, rfl⟩
              go_wp2_with fail
              refine (dot_ok _ _ _ _ _ _ _ HY.out HX.out HLL.out.symm KY.out KX.out).mono ?_
              rintro e w' ⟨rfl, rfl⟩
              go_wp2_with fail
              have E1 : Hid (t = (x.take t).length) := by show _ = _; simp; omega
              have E2 : Hid (t = (y.take t).length) := by show _ = _; simp; omega
              have E3 : Hid ((x.take t).length = (y.take t).length) := E1.out.symm.trans E2.out
              go_quiet ((go_at_call 8; exact Calls.quiet_of_same (dot_okm _ _ _ _ _ _ (x.take t) (y.take t) _ E1.out E2.out ((HX.out.to t).draws _) ((HY.out.to t).draws _) E3.out (Ls.mild_take KX.out t) (Ls.mild_take KY.out t))))
              go_wp2_with fail
              have E4 : Hid (x.length - t = (x.drop t).length) := by show _ = _; simp
              have E5 : Hid (y.length - t = (y.drop t).length) := by show _ = _; simp
              have E6 : Hid ((x.drop t).length = (y.drop t).length) := by show _ = _; have := HLL.out; simp; omega
              go_quiet ((go_at_call 8; exact (dot_okm _ _ _ _ _ _ (x.drop t) (y.drop t) _ E4.out E5.out ((HX.out.left CX t).draws _) ((HY.out.left CY t).draws _) E6.out (Ls.mild_drop KX.out t) (Ls.mild_drop KY.out t)).mono fun _ _ ⟨he, hw⟩ => ⟨he, _, hw⟩))
              have hsp := Ls.dot_split (b := y) t ht
              have hcm := Ls.dot_comm HLL.out
              have B1 := Ls.dotN_bd (Ls.mild_take KX.out t) (Ls.mild_take KY.out t) (x.take t).length
              have B2 := Ls.dotN_bd (Ls.mild_drop KX.out t) (Ls.mild_drop KY.out t) (x.drop t).length
              have L1 : (x.take t).length ≤ 1024 := Ls.mild_len (Ls.mild_take KX.out t)
              have L2 : (x.drop t).length ≤ 1024 := Ls.mild_len (Ls.mild_drop KX.out t)
              obtain ⟨p, ep⟩ : ∃ p, Ls.dot (x.take t) (y.take t) = p := ⟨_, rfl⟩
              obtain ⟨q, eq⟩ : ∃ q, Ls.dot (x.drop t) (y.drop t) = q := ⟨_, rfl⟩
              have P1 : p ≤ 288230376151711744 := by rw [← ep]; unfold Ls.dot; omega
              have P2 : -288230376151711744 ≤ p := by rw [← ep]; unfold Ls.dot; omega
              have Q1 : q ≤ 288230376151711744 := by rw [← eq]; unfold Ls.dot; omega
              have Q2 : -288230376151711744 ≤ q := by rw [← eq]; unfold Ls.dot; omega
              rw [ep, eq] at hsp
              have R1 : Ls.dot x y = p + q := hsp
              have R2 : Ls.dot y x = p + q := hcm.symm.trans hsp
              clear hsp hcm B1 B2 L1 L2 E1 E2 E3 E4 E5 E6
              go_wp2_with (go_at_call 10; refine (dtAwake_any _).mono ?_; rintro e w2 ⟨rfl, hb⟩)
              all_goals
                go_ret
                exact ⟨rfl, below_then (below_drewN (Below.refl _ _) _) hb⟩
  · go_enter Try.func5, Try.ntmps5
    go_wp2_with (go_at_call 10; refine (dtAwake_any _).mono ?_; rintro e w2 ⟨rfl, hb⟩)
    go_ret
    exact ⟨rfl, hb⟩

set_option maxRecDepth 100000 in
theorem lifted (os : Os) (started : os.Started) (H : Type) (enc : TypeId × Value → H) :
    ReturnsInHanded {} Try.checked os 5 .any (Rows.dotSplitsSpec.pre6 enc Try.prog Try.f5 Rows.dotSplitsRow.domain false) (Rows.dotSplitsSpec.post enc Try.prog Try.f5 false true false false) := by
  refine returnsInHanded_of_change (C := Try.checked) own started (by kernel_rfl) Try.func5
    (ChangeSpec.witness6 (enc := enc) (C := Try.checked) false ⟨#[], #[.slice none 0 0, .slice none 0 0, .int .i64 0], []⟩ 8 (by kernel_rfl) (by kernel_rfl) (by kernel_rfl) (by kernel_rfl)) ?_
  intro W base args ds gs before hval0 hW hcnd _
  have hval : ∀ (j : Nat) t v, Try.f5.params[j]? = some t → args[j]? = some v → Value.okWide Try.prog W .any base t v := hval0
  have hW' := hW
  obtain ⟨p, q, hA0, hV, rfl, hfz, hnd⟩ := hW
  have hA : DataW.TrodAll enc Try.prog W 0 (fun _ => true) true Try.f5.params.toList args.toList ds p := hA0
  rw [Try.params5] at hA hval
  obtain ⟨v0, vs0, d0, ds0, p0, q0, hargs, rfl, rfl, h0, r0⟩ := trodAll_cons hA
  obtain ⟨v1, vs1, d1, ds1, p1, q1, rfl, rfl, rfl, h1, r1⟩ := trodAll_cons r0
  obtain ⟨v2, vs2, d2, ds2, p2, q2, rfl, rfl, rfl, h2, r2⟩ := trodAll_cons r1
  obtain ⟨rfl, rfl, rfl⟩ := trodAll_nil r2
  obtain rfl : args = #[v0, v1, v2] := by cases args; simp_all
  obtain ⟨rfl, rfl⟩ := trodVars_none hV
  obtain ⟨a0, len0, cap0, rfl⟩ := okWide_slice Try.underlying22 (hval 0 22 v0 rfl rfl)
  have k0 := h0
  have lt0 : ∀ x ∈ p0, x.block < W.heap.size := by obtain ⟨m, hm⟩ := k0; exact DataW.trod_lt m _ _ _ hm
  obtain ⟨z0, w0⟩ : ∃ zs, IsRow .i32 W a0 len0 cap0 zs := by
    obtain ⟨fuel, hf⟩ := h0
    rcases open_ints Try.underlying22 Try.underlying21 (by kernel_rfl) hf with ⟨hcs, _⟩ | ⟨x, l, c, zs, hcs, _, hl, hm, hz, _, hcell, hwz⟩
    · simp [Value.cells] at hcs
      obtain ⟨rfl, rfl, rfl⟩ := hcs
      exact ⟨[], .inl ⟨rfl, rfl, rfl, rfl⟩⟩
    · simp [Value.cells] at hcs
      obtain ⟨rfl, rfl, rfl⟩ := hcs
      exact ⟨zs, .inr ⟨_, rfl, hl, hm, by simpa using hz, hcell, hwz⟩⟩
  obtain ⟨a1, len1, cap1, rfl⟩ := okWide_slice Try.underlying22 (hval 1 22 v1 rfl rfl)
  have k1 := h1
  have lt1 : ∀ x ∈ p1, x.block < W.heap.size := by obtain ⟨m, hm⟩ := k1; exact DataW.trod_lt m _ _ _ hm
  obtain ⟨z1, w1⟩ : ∃ zs, IsRow .i32 W a1 len1 cap1 zs := by
    obtain ⟨fuel, hf⟩ := h1
    rcases open_ints Try.underlying22 Try.underlying21 (by kernel_rfl) hf with ⟨hcs, _⟩ | ⟨x, l, c, zs, hcs, _, hl, hm, hz, _, hcell, hwz⟩
    · simp [Value.cells] at hcs
      obtain ⟨rfl, rfl, rfl⟩ := hcs
      exact ⟨[], .inl ⟨rfl, rfl, rfl, rfl⟩⟩
    · simp [Value.cells] at hcs
      obtain ⟨rfl, rfl, rfl⟩ := hcs
      exact ⟨zs, .inr ⟨_, rfl, hl, hm, by simpa using hz, hcell, hwz⟩⟩
  obtain ⟨a2, rfl, rfl, rfl, w2⟩ := open_int Try.underlying3 (hval 2 3 v2 rfl rfl) h2
  clear hA0 hval0
  refine (walk a0 len0 cap0 z0 a1 len1 cap1 z1 a2 W w0 w1 w2).mono fun e W' ⟨he, bel⟩ => ?_
  subst he
  exact ⟨_, rfl, _, _, _, [], _, [], hW', trodAll_mk1 (shut_bool Try.underlying4 _), (trodAll_cons_mk (Below.trod laidOut (by kernel_rfl) (of_decide_eq_true (by kernel_rfl)) k0 bel lt0) (trodAll_cons_mk (Below.trod laidOut (by kernel_rfl) (of_decide_eq_true (by kernel_rfl)) k1 bel lt1) (trodAll_cons_mk (shut_int Try.underlying3 w2) trodAll_mk0))), rfl, bel.frame _, fun h => by cases h⟩

theorem over : Rows.dotSplitsRow.holds Try.pinned (OpenSpec.ofChange Rows.dotSplitsSpec) :=
  OpenClaim.holds_of_wide 5 Try.f5 rfl rfl rfl rfl rfl rfl rfl ⟨rfl, rfl, rfl, rfl, rfl⟩ rfl rfl rfl rfl rfl (by kernel_rfl) Try.func5 (by kernel_rfl)
    (of_decide_eq_true (by kernel_rfl)) (by unfold Func.isWrapper; first | (rw [if_pos (by decide +kernel)]; kernel_rfl) | (rw [if_neg (by decide +kernel)]; exact ⟨rfl, rfl⟩))
    (fun os started H enc _ => lifted os started H enc)

theorem proved : Rows.DotSplitsSaid := over
end Go.Proofs.Ytjeekibddmdgmaa.dotSplits

namespace Go.Proofs.Ytjeekibddmdgmaa
theorem dotSplits_holds : Rows.DotSplitsSaid := dotSplits.proved
#print axioms dotSplits_holds
end Go.Proofs.Ytjeekibddmdgmaa
