/- Any lists, by any weights, have the mean that the document says, or are refused: SoftMixes answers true for every input. -/
import Derived.Test.YtnpoaalopppanaaRows
import Derived.Test.YtnpoaalopppanaaSfAwake
import Derived.Deep.RegionWith
import Derived.WalkKit
import Derived.ProofKit
import Derived.OpenShut
import Derived.ShutString
import Derived.ChangeOld
import Derived.Below
namespace Go.Proofs.Ytnpoaalopppanaa.softMixes
open Go.ChangeShapes Go.WideShapes Go.ChangeAt Go.RowKit
set_option linter.unusedVariables false

theorem own : ownKnob Try.prog.godebug = none := by kernel_rfl
theorem laidOut : laidOutB Try.prog = true := by kernel_rfl

/-- What the walk is told of a slice of integers that came in. -/
def IsRow (k : IntKind) (w : World) (a : Option Addr) (len cap : Nat) (zs : List Int) : Prop :=
  (a = none ∧ len = 0 ∧ cap = 0 ∧ zs = []) ∨
  ∃ x, a = some x ∧ len ≤ cap ∧ cap ≤ maxLen ∧ zs.length = cap ∧ (∀ i, i < zs.length → w.cell? (x.add i) = some (.int k (zs.getD i 0))) ∧ ∀ n ∈ zs, (Lit.int k n).wf = true

set_option maxHeartbeats 1600000 in
theorem walk (a0 : Option Addr) (len0 cap0 : Nat) (z0 : List Int) (a1 : Option Addr) (len1 cap1 : Nat) (w : World) (w0 : IsRow .i64 w a0 len0 cap0 z0) (w1 : IsTable w a1 len1 cap1) :
    Calls Try.prog 4 #[.slice a0 len0 cap0, .slice a1 len1 cap1] w fun e w' => e = .returned (.bool true) ∧ Below w.heap.size w w' := by
  obtain ⟨x, hx, LX, MX, CX, DX, _⟩ := row_open64 w0
  obtain ⟨ls, hls, TL, IL, ML, _⟩ := table_open w1
  subst hx hls
  have HX : Hid (Lst .i64 w a0 x) := LX
  have HT : Hid (Tbl w a1 ls) := TL
  have NX : Hid (x.length ≤ maxLen) := MX
  have NL : Hid (ls.length ≤ maxLen) := ML
  clear w0 w1 LX MX DX CX TL IL ML
  by_cases h1 : 1100 < ls.length
  · go_enter Try.func4, Try.ntmps4
    go_wp2_with (go_at_call 8; refine (sfAwake_any _).mono ?_; rintro e wa ⟨rfl, hb⟩)
    go_ret
    exact ⟨rfl, hb⟩
  by_cases h2 : 1100 < x.length
  · go_enter Try.func4, Try.ntmps4
    go_wp2_with (go_at_call 8; refine (sfAwake_any _).mono ?_; rintro e wa ⟨rfl, hb⟩)
    go_ret
    exact ⟨rfl, hb⟩
  have hl : ls.length ≤ 1100 := by omega
  have hx : x.length ≤ 1100 := by omega
  have g1 : decide (1100 < (ls.length : Int)) = false := by simp; omega
  have g2 : decide (1100 < (x.length : Int)) = false := by simp; omega
  clear h1 h2
  go_enter Try.func4, Try.ntmps4
  go_wp2
  clear g1 g2
  go_loop [21] (fun i => ∃ k : Nat, k ≤ ls.length ∧ i = .int .i64 k ∧ ∀ j, j < k → (Tb.row ls j).length ≤ 40) (fun i => ls.length - (intOf i).toNat)
  case atStart => exact ⟨0, Nat.zero_le _, rfl, fun j hj => by omega⟩
  case round =>
    obtain ⟨k, hk, rfl, hall⟩ := hrel
    have HR : Hid (∀ j, j < k → (Tb.row ls j).length ≤ 40) := hall
    clear hall
    by_cases hlt : k < ls.length
    · obtain ⟨b, o, rfl, hc⟩ := HT.out.get hlt
      obtain ⟨A, C, hck, _, _⟩ := hc k hlt
      clear hc
      by_cases hs : 40 < (Tb.row ls k).length
      · go_wp2_with (go_at_call 8; refine (sfAwake_any _).mono ?_; rintro e wa ⟨rfl, hb⟩)
        go_ret
        exact ⟨rfl, hb⟩
      · go_wp2
        go_round
        case rel =>
          refine ⟨k + 1, by omega, by go_num, fun j hj => ?_⟩
          by_cases e : j = k
          · subst e; omega
          · exact HR.out j (by omega)
        case measure => simp [intOf]; omega
    · have HN : Hid ((Tb.row ls 0).length ≤ 40) := by
        show _ ≤ _
        by_cases e : 0 < ls.length
        · exact HR.out 0 (by omega)
        · rw [Tb.row_past (by omega)]; simp
      clear HR
      by_cases hs : Tb.shape x.length ls = 0
      · have HS : Hid (Tb.shape x.length ls = 0) := hs
        clear hs
        cases hf : Tb.fit x ls
        · have HF : Hid (Tb.fit x ls = false) := hf
          clear hf
          go_wp2_with fail
          refine (mix_range _ _ _ _ _ _ _ HX.out HT.out HS.out HF.out).mono ?_
          rintro e w' ⟨rfl, hww⟩
          cases hww.symm
          clear hww
          go_wp2_with fail
          refine (refRight_any _ _ _ _ _ _ _ HX.out HT.out NX.out NL.out).mono ?_
          rintro e u1 ⟨rfl, n1, hw1⟩
          rw [Tb.right_range HS.out HF.out]
          have W1 : Hid (Below w.heap.size w u1) := by show Below _ _ _; rw [hw1]; exact below_drewN (Below.refl _ _) n1
          clear hw1
          go_wp2_with (go_at_call 8; refine (sfAwake_any _).mono ?_; rintro e wa ⟨rfl, hb⟩)
          go_ret
          exact ⟨rfl, below_then W1.out hb⟩
        · have HF : Hid (Tb.fit x ls = true) := hf
          clear hf
          have EM : Hid ((Tb.mean x ls).length = (Tb.row ls 0).length) := Tb.mean_length x ls
          go_wp2_with fail
          refine (mix_ok _ _ _ _ _ _ _ HX.out HT.out HS.out HF.out).mono ?_
          rintro e u1 ⟨g1, rfl, _, h1, hB⟩
          have W1 : Hid (Below w.heap.size w u1) := hB
          have X1 : Hid (Lst .i64 u1 a0 x) := HX.out.keep hB
          have T1 : Hid (Tbl u1 a1 ls) := HT.out.keep hB
          have M1 : Hid (Lst .i32 u1 (some ⟨g1, 0, none⟩) (Tb.mean x ls)) := h1
          clear hB h1
          go_wp2_with fail
          refine (refRight_any _ _ _ _ _ _ _ X1.out T1.out NX.out NL.out).mono ?_
          rintro e u2 ⟨rfl, n2, hw2⟩
          rw [Tb.right_ok HS.out HF.out]
          have hB : Below u1.heap.size u1 u2 := by rw [hw2]; exact below_drewN (Below.refl _ _) n2
          have W2 : Hid (Below w.heap.size w u2) := below_then W1.out hB
          have X2 : Hid (Lst .i64 u2 a0 x) := X1.out.keep hB
          have T2 : Hid (Tbl u2 a1 ls) := T1.out.keep hB
          have M2 : Hid (Lst .i32 u2 (some ⟨g1, 0, none⟩) (Tb.mean x ls)) := M1.out.keep hB
          clear hB hw2 W1 X1 T1 M1
          go_wp2_with fail
          refine (refMix_any _ _ _ _ _ _ _ X2.out T2.out HS.out HF.out).mono ?_
          rintro e u3 ⟨v3, rfl, h3, hB⟩
          obtain ⟨a3, c3, rfl, h4⟩ := lst_of_ownm h3 EM.out.symm
          have W3 : Hid (Below w.heap.size w u3) := below_then W2.out hB
          have M3 : Hid (Lst .i32 u3 (some ⟨g1, 0, none⟩) (Tb.mean x ls)) := M2.out.keep hB
          have R3 : Hid (Lst .i32 u3 a3 (Tb.mean x ls)) := h4
          clear hB h3 h4 W2 X2 T2 M2
          go_wp2_with fail
          refine (same_anym _ _ _ _ _ _ _ _ _ EM.out.symm EM.out.symm M3.out R3.out (by rw [EM.out]; have := HN.out; omega) rfl).mono ?_
          rintro e u4 ⟨rfl, hB⟩
          have W4 : Hid (Below w.heap.size w u4) := below_then W3.out hB
          clear hB W3 M3 R3
          go_wp2_with (go_at_call 8; refine (sfAwake_any _).mono ?_; rintro e wa ⟨rfl, hb⟩)
          go_ret
          exact ⟨rfl, below_then W4.out hb⟩
      · have HS : Hid (¬ Tb.shape x.length ls = 0) := hs
        obtain ⟨z, ez⟩ : ∃ z, Tb.shape x.length ls = z := ⟨_, rfl⟩
        have hz : (z != 0) = true := bne_iff_ne.2 (by rw [← ez]; exact hs)
        have EZ : Hid (Tb.shape x.length ls = z) := ez
        clear hs ez
        go_wp2_with fail
        refine (mix_bad _ _ _ _ _ _ _ HT.out HS.out).mono ?_
        rintro e w' ⟨rfl, hww⟩
        cases hww.symm
        clear hww
        rw [EZ.out]
        go_wp2_with fail
        refine (refRight_any _ _ _ _ _ _ _ HX.out HT.out NX.out NL.out).mono ?_
        rintro e u1 ⟨rfl, n1, hw1⟩
        rw [Tb.right_shape HS.out, EZ.out]
        have W1 : Hid (Below w.heap.size w u1) := by show Below _ _ _; rw [hw1]; exact below_drewN (Below.refl _ _) n1
        clear hw1
        go_wp2_with (go_at_call 8; refine (sfAwake_any _).mono ?_; rintro e wa ⟨rfl, hb⟩)
        go_ret
        exact ⟨rfl, below_then W1.out hb⟩

set_option maxRecDepth 100000 in
theorem lifted (os : Os) (started : os.Started) (H : Type) (enc : TypeId × Value → H) :
    ReturnsInHanded {} Try.checked os 4 .any (Rows.softMixesSpec.pre6 enc Try.prog Try.f4 Rows.softMixesRow.domain false) (Rows.softMixesSpec.post enc Try.prog Try.f4 false true false false) := by
  refine returnsInHanded_of_change (C := Try.checked) own started (by kernel_rfl) Try.func4
    (ChangeSpec.witness6 (enc := enc) (C := Try.checked) false ⟨#[], #[.slice none 0 0, .slice none 0 0], []⟩ 8 (by kernel_rfl) (by kernel_rfl) (by kernel_rfl) (by kernel_rfl)) ?_
  intro W base args ds gs before hval0 hW hcnd _
  have hval : ∀ (j : Nat) t v, Try.f4.params[j]? = some t → args[j]? = some v → Value.okWide Try.prog W .any base t v := hval0
  have hW' := hW
  obtain ⟨p, q, hA0, hV, rfl, hfz, hnd⟩ := hW
  have hA : DataW.TrodAll enc Try.prog W 0 (fun _ => true) true Try.f4.params.toList args.toList ds p := hA0
  rw [Try.params4] at hA hval
  obtain ⟨v0, vs0, d0, ds0, p0, q0, hargs, rfl, rfl, h0, r0⟩ := trodAll_cons hA
  obtain ⟨v1, vs1, d1, ds1, p1, q1, rfl, rfl, rfl, h1, r1⟩ := trodAll_cons r0
  obtain ⟨rfl, rfl, rfl⟩ := trodAll_nil r1
  obtain rfl : args = #[v0, v1] := by cases args; simp_all
  obtain ⟨rfl, rfl⟩ := trodVars_none hV
  obtain ⟨a0, len0, cap0, rfl⟩ := okWide_slice Try.underlying24 (hval 0 24 v0 rfl rfl)
  have k0 := h0
  have lt0 : ∀ x ∈ p0, x.block < W.heap.size := by obtain ⟨m, hm⟩ := k0; exact DataW.trod_lt m _ _ _ hm
  obtain ⟨z0, w0⟩ : ∃ zs, IsRow .i64 W a0 len0 cap0 zs := by
    obtain ⟨fuel, hf⟩ := h0
    rcases open_ints Try.underlying24 Try.underlying3 (by kernel_rfl) hf with ⟨hcs, _⟩ | ⟨x, l, c, zs, hcs, _, hl, hm, hz, _, hcell, hwz⟩
    · simp [Value.cells] at hcs
      obtain ⟨rfl, rfl, rfl⟩ := hcs
      exact ⟨[], .inl ⟨rfl, rfl, rfl, rfl⟩⟩
    · simp [Value.cells] at hcs
      obtain ⟨rfl, rfl, rfl⟩ := hcs
      exact ⟨zs, .inr ⟨_, rfl, hl, hm, by simpa using hz, hcell, hwz⟩⟩
  obtain ⟨a1, len1, cap1, rfl⟩ := okWide_slice Try.underlying33 (hval 1 33 v1 rfl rfl)
  have k1 := h1
  have lt1 : ∀ x ∈ p1, x.block < W.heap.size := by obtain ⟨m, hm⟩ := k1; exact DataW.trod_lt m _ _ _ hm
  have w1 : IsTable W a1 len1 cap1 := by
    obtain ⟨fuel, hf⟩ := h1
    rcases Go.Deep.open_int_rows Try.underlying33 Try.underlying22 Try.underlying21 (by kernel_rfl) (by kernel_rfl) hf with ⟨hcs, _⟩ | ⟨x, l, c, A, L, C, Z, hcs, _, hl, hm, _, hr⟩
    · simp [Value.cells] at hcs
      obtain ⟨rfl, rfl, rfl⟩ := hcs
      exact .inl ⟨rfl, rfl, rfl⟩
    · simp [Value.cells] at hcs
      obtain ⟨rfl, rfl, rfl⟩ := hcs
      refine .inr ⟨x, A, L, C, Z, rfl, hl, hm, fun r hr' => ?_⟩
      obtain ⟨q1, q2, q3, q4, q5, q6, q7⟩ := hr r hr'
      exact ⟨q1, q2, q3, q4, q5, q6, fun a' ha => (q7 a' ha).2⟩
  clear hA0 hval0
  refine (walk a0 len0 cap0 z0 a1 len1 cap1 W w0 w1).mono fun e W' ⟨he, bel⟩ => ?_
  subst he
  exact ⟨_, rfl, _, _, _, [], _, [], hW', trodAll_mk1 (shut_bool Try.underlying4 _), (trodAll_cons_mk (Below.trod laidOut (by kernel_rfl) (of_decide_eq_true (by kernel_rfl)) k0 bel lt0) (trodAll_cons_mk (Below.trod laidOut (by kernel_rfl) (of_decide_eq_true (by kernel_rfl)) k1 bel lt1) trodAll_mk0)), rfl, bel.frame _, fun h => by cases h⟩

theorem over : Rows.softMixesRow.holds Try.pinned (OpenSpec.ofChange Rows.softMixesSpec) :=
  OpenClaim.holds_of_wide 4 Try.f4 rfl rfl rfl rfl rfl rfl rfl ⟨rfl, rfl, rfl, rfl, rfl⟩ rfl rfl rfl rfl rfl (by kernel_rfl) Try.func4 (by kernel_rfl)
    (of_decide_eq_true (by kernel_rfl)) (by unfold Func.isWrapper; first | (rw [if_pos (by decide +kernel)]; kernel_rfl) | (rw [if_neg (by decide +kernel)]; exact ⟨rfl, rfl⟩))
    (fun os started H enc _ => lifted os started H enc)

theorem proved : Rows.SoftMixesSaid := over
end Go.Proofs.Ytnpoaalopppanaa.softMixes

namespace Go.Proofs.Ytnpoaalopppanaa
theorem softMixes_holds : Rows.SoftMixesSaid := softMixes.proved
#print axioms softMixes_holds
end Go.Proofs.Ytnpoaalopppanaa
