/- Each place of a mean is from the least to the greatest one of the lists there: SoftBetween answers true for every input. -/
import Derived.Test.YtnpoaalopppanaaRows
import Derived.Test.YtnpoaalopppanaaSfAwake
import Derived.Deep.RegionWith
import Derived.WalkKit
import Derived.ProofKit
import Derived.OpenShut
import Derived.ShutString
import Derived.ChangeOld
import Derived.Below
namespace Go.Proofs.Ytnpoaalopppanaa.softBetween
open Go.ChangeShapes Go.WideShapes Go.ChangeAt Go.RowKit
set_option linter.unusedVariables false

theorem own : ownKnob Try.prog.godebug = none := by kernel_rfl
theorem laidOut : laidOutB Try.prog = true := by kernel_rfl

/-- What the walk is told of a slice of integers that came in. -/
def IsRow (k : IntKind) (w : World) (a : Option Addr) (len cap : Nat) (zs : List Int) : Prop :=
  (a = none ∧ len = 0 ∧ cap = 0 ∧ zs = []) ∨
  ∃ x, a = some x ∧ len ≤ cap ∧ cap ≤ maxLen ∧ zs.length = cap ∧ (∀ i, i < zs.length → w.cell? (x.add i) = some (.int k (zs.getD i 0))) ∧ ∀ n ∈ zs, (Lit.int k n).wf = true

set_option maxRecDepth 100000 in
set_option maxHeartbeats 3200000 in
theorem walk (a0 : Option Addr) (len0 cap0 : Nat) (z0 : List Int) (a1 : Option Addr) (len1 cap1 : Nat) (w : World) (w0 : IsRow .i32 w a0 len0 cap0 z0) (w1 : IsTable w a1 len1 cap1) :
    Calls Try.prog 6 #[.slice a0 len0 cap0, .slice a1 len1 cap1] w fun e w' => e = .returned (.bool true) ∧ Below w.heap.size w w' := by
  -- depth
  obtain ⟨x, hx, LX, IX, MX, CX, DX, _⟩ := row_open w0
  obtain ⟨ls, hls, TL, IL, ML, _⟩ := table_open w1
  subst hx hls
  have HX : Hid (Lst .i32 w a0 x) := LX
  have JX : Hid (Ls.In32 x) := IX
  have HT : Hid (Tbl w a1 ls) := TL
  have NL : Hid (ls.length ≤ maxLen) := ML
  clear w0 w1 LX MX DX CX TL IL ML IX
  by_cases h1 : x.length = 0
  · go_enter Try.func6, Try.ntmps6
    go_wp2_with (go_at_call 8; refine (sfAwake_any _).mono ?_; rintro e wa ⟨rfl, hb⟩)
    go_ret
    exact ⟨rfl, hb⟩
  by_cases h2 : 40 < x.length
  · go_enter Try.func6, Try.ntmps6
    go_wp2_with (go_at_call 8; refine (sfAwake_any _).mono ?_; rintro e wa ⟨rfl, hb⟩)
    go_ret
    exact ⟨rfl, hb⟩
  by_cases h3 : ls.length = x.length
  case neg =>
    have g0 : ((x.length : Int) == 0) = false := beq_eq_false_iff_ne.2 (by omega)
    have g1 : decide (40 < (x.length : Int)) = false := by simp; omega
    have g2 : ((ls.length : Int) != (x.length : Int)) = true := bne_iff_ne.2 (by omega)
    go_enter Try.func6, Try.ntmps6
    go_wp2_with (go_at_call 8; refine (sfAwake_any _).mono ?_; rintro e wa ⟨rfl, hb⟩)
    go_ret
    exact ⟨rfl, hb⟩
  have hp : 0 < x.length := by omega
  have hpl : 0 < ls.length := by omega
  have hl : x.length ≤ 40 := by omega
  have hll : ls.length ≤ 40 := by omega
  have HXL : Hid (ls.length = x.length) := h3
  have hxl1 : x.length ≤ ls.length := by omega
  have hxl2 : ls.length ≤ x.length := by omega
  have g0 : ((x.length : Int) == 0) = false := beq_eq_false_iff_ne.2 (by omega)
  have g1 : decide (40 < (x.length : Int)) = false := by simp; omega
  have g2 : ((ls.length : Int) != (x.length : Int)) = false := by simp; omega
  clear h1 h2 h3
  have EL : Hid ((Tb.weights x).length = x.length) := Tb.weights_length x
  go_enter Try.func6, Try.ntmps6
  go_wp2_with fail
  refine (weights_ok _ _ _ _ HX.out hp (by omega) JX.out).mono ?_
  rintro e u1 ⟨gw, rfl, _, h1, hB⟩
  have W1 : Hid (Below w.heap.size w u1) := hB
  have T1 : Hid (Tbl u1 a1 ls) := HT.out.keep hB
  have P1 : Hid (Lst .i64 u1 (some ⟨gw, 0, none⟩) (Tb.weights x)) := h1
  clear hB h1 HX HT
  obtain ⟨bt, ot, rfl, hct⟩ := T1.out.get hpl
  have HC : Hid (∀ j, j < ls.length → ∃ A C, u1.cell? ⟨bt, ot + j, none⟩ = some (.slice A (Tb.row ls j).length C) ∧ Lst .i32 u1 A (Tb.row ls j) ∧ (Tb.row ls j).length ≤ maxLen) := hct
  obtain ⟨A0, C0, hck0, _, _⟩ := hct 0 hpl
  have hck0 : u1.cell? ⟨bt, ot, none⟩ = some (.slice A0 (Tb.row ls 0).length C0) := by simpa using hck0
  clear hct
  go_wp2
  clear g0 g1 g2
  go_loopw [51] (fun i wr => ∃ k : Nat, k ≤ ls.length ∧ i = .int .i64 k ∧ wr = u1 ∧ Tb.Calm ls k) (fun i _ => ls.length - (intOf i).toNat)
  case atStart => exact ⟨0, Nat.zero_le _, rfl, rfl, Tb.calm_zero ls⟩
  case round =>
    obtain ⟨k, hk, rfl, hwr, hcalm⟩ := hrel
    cases hwr.symm
    clear hwr
    have HK : Hid (Tb.Calm ls k) := hcalm
    clear hcalm
    by_cases hlt : k < ls.length
    · obtain ⟨A, C, hck, hLk, _⟩ := HC.out k hlt
      have HL : Hid (Lst .i32 u1 A (Tb.row ls k)) := hLk
      clear hLk
      by_cases c1 : 40 < (Tb.row ls k).length
      · go_wp2_with (go_at_call 8; refine (sfAwake_any _).mono ?_; rintro e wa ⟨rfl, hb⟩)
        go_ret
        exact ⟨rfl, below_then W1.out hb⟩
      by_cases c2 : (Tb.row ls k).length = (Tb.row ls 0).length
      case neg =>
        have q1 : decide (40 < ((Tb.row ls k).length : Int)) = false := by simp; omega
        have q2 : (((Tb.row ls k).length : Int) != ((Tb.row ls 0).length : Int)) = true := bne_iff_ne.2 (by omega)
        go_wp2_with (go_at_call 8; refine (sfAwake_any _).mono ?_; rintro e wa ⟨rfl, hb⟩)
        go_ret
        exact ⟨rfl, below_then W1.out hb⟩
      have C1 : Hid (¬ 40 < (Tb.row ls k).length) := c1
      have C2 : Hid ((Tb.row ls k).length = (Tb.row ls 0).length) := c2
      have hl1 : (Tb.row ls k).length ≤ 40 := by omega
      have q1 : decide (40 < ((Tb.row ls k).length : Int)) = false := by simp; omega
      have q2 : (((Tb.row ls k).length : Int) != ((Tb.row ls 0).length : Int)) = false := by simp; omega
      clear c1 c2
      go_wp2
      clear q1 q2 hck
      go_loopw [70] (fun i wr => ∃ q : Nat, q ≤ (Tb.row ls k).length ∧ i = .int .i64 q ∧ wr = u1 ∧ ∀ j, j < q → -8388608 ≤ Ls.nth (Tb.row ls k) j ∧ Ls.nth (Tb.row ls k) j ≤ 8388608) (fun i _ => (Tb.row ls k).length - (intOf i).toNat)
      case atStart => exact ⟨0, Nat.zero_le _, rfl, rfl, fun j hj => by omega⟩
      case round =>
        obtain ⟨q, hq, rfl, hwr, hm⟩ := hrel
        cases hwr.symm
        clear hwr
        have HM : Hid (∀ j, j < q → -8388608 ≤ Ls.nth (Tb.row ls k) j ∧ Ls.nth (Tb.row ls k) j ≤ 8388608) := hm
        clear hm
        by_cases hql : q < (Tb.row ls k).length
        · obtain ⟨b2, o2, rfl, hc2⟩ := HL.out.get hql
          have hck2 := hc2 q hql
          clear hc2
          by_cases d1 : Ls.nth (Tb.row ls k) q < -8388608
          · go_wp2_with (go_at_call 8; refine (sfAwake_any _).mono ?_; rintro e wa ⟨rfl, hb⟩)
            go_ret
            exact ⟨rfl, below_then W1.out hb⟩
          by_cases d2 : 8388608 < Ls.nth (Tb.row ls k) q
          · go_wp2_with (go_at_call 8; refine (sfAwake_any _).mono ?_; rintro e wa ⟨rfl, hb⟩)
            go_ret
            exact ⟨rfl, below_then W1.out hb⟩
          go_wp2
          go_roundw
          case rel =>
            refine ⟨q + 1, by omega, by go_num, by trivial, fun j hj => ?_⟩
            by_cases e : j = q
            · subst e; omega
            · exact HM.out j (by omega)
          case measure => simp [intOf]; omega
        · go_wp2
          go_roundw
          case rel => exact ⟨k + 1, by omega, by go_num, by trivial, Tb.calm_step HK.out hl1 C2.out (fun i hi => HM.out i (by omega))⟩
          case measure => simp [intOf]; omega
    · have e : k = ls.length := by omega
      subst e
      have hs : Tb.shape (Tb.weights x).length ls = 0 := Tb.shape_ok (by omega) (by omega) (by rw [EL.out]; omega) (Tb.calm_even HK.out)
      have hf : Tb.fit (Tb.weights x) ls = true := by unfold Tb.fit; rw [Tb.weigh_weights hp, Tb.calm_milds HK.out]; rfl
      have HS : Hid (Tb.shape (Tb.weights x).length ls = 0) := hs
      have HF : Hid (Tb.fit (Tb.weights x) ls = true) := hf
      have hr0 := (HK.out 0 hpl).1
      clear hs hf
      go_wp2_with fail
      refine (mix_okm _ _ _ _ _ _ _ _ EL.out.symm P1.out T1.out HS.out HF.out).mono ?_
      rintro e u2 ⟨gm, rfl, _, h1, hB⟩
      have W2 : Hid (Below w.heap.size w u2) := below_then W1.out hB
      have T2 : Hid (Tbl u2 (some ⟨bt, ot, none⟩) ls) := T1.out.keep hB
      have M2 : Hid (Lst .i32 u2 (some ⟨gm, 0, none⟩) (Tb.mean (Tb.weights x) ls)) := h1
      clear hB h1 W1 T1 P1 HC hck0
      obtain ⟨bt', ot', et, hct⟩ := T2.out.get hpl
      simp at et
      obtain ⟨rfl, rfl⟩ := et
      have HC : Hid (∀ j, j < ls.length → ∃ A C, u2.cell? ⟨bt, ot + j, none⟩ = some (.slice A (Tb.row ls j).length C) ∧ Lst .i32 u2 A (Tb.row ls j) ∧ (Tb.row ls j).length ≤ maxLen) := hct
      obtain ⟨A1, C1, hck0, hL0, _⟩ := hct 0 hpl
      have hck0 : u2.cell? ⟨bt, ot, none⟩ = some (.slice A1 (Tb.row ls 0).length C1) := by simpa using hck0
      have HL0 : Hid (Lst .i32 u2 A1 (Tb.row ls 0)) := hL0
      clear hct hL0
      go_wp2
      go_loopw [102] (fun i wr => ∃ k n : Nat, k ≤ (Tb.row ls 0).length ∧ i = .int .i64 k ∧ wr = u2.drewN n) (fun i _ => (Tb.row ls 0).length - (intOf i).toNat)
      case atStart => exact ⟨0, 0, Nat.zero_le _, rfl, rfl⟩
      case round =>
        obtain ⟨i, n, hi, rfl, rfl⟩ := hrel
        by_cases hil : i < (Tb.row ls 0).length
        · obtain ⟨b0, o0, rfl, hc0⟩ := HL0.out.get hil
          have hck00 := hc0 i hil
          have hcm := M2.out.cell0 (i := i) (by rw [Tb.mean_length]; exact hil)
          rw [Tb.nth_mean hil] at hcm
          have hbt := Tb.place_between (i := i) (Tb.weights_wts x) (Tb.weights_sum hp) (by rw [EL.out, HXL.out]) (fun k => Tb.calm_nth HK.out k i)
          obtain ⟨y, ey⟩ : ∃ y, Tb.place (Tb.weights x) ls i = y := ⟨_, rfl⟩
          rw [ey] at hcm hbt
          have HBT : Hid (Tb.lo ls i ls.length ≤ y ∧ y ≤ Tb.hi ls i ls.length) := hbt
          clear hc0 hbt ey
          have e0 : (0 : Int) ≤ (i : Int) := by omega
          have e1 : (i : Int) < ((Tb.row ls 0).length : Int) := by omega
          have e2 : (0 : Int) < (ls.length : Int) := by omega
          go_wp2
          go_quiet (fail)
          go_wp2
          clear hck00 hcm
          go_loopw [15, 16, 121] (fun s t j wr => ∃ q n' : Nat, q ≤ ls.length ∧ j = .int .i64 q ∧ s = .int .i32 (Tb.lo ls i q) ∧ t = .int .i32 (Tb.hi ls i q) ∧ wr = u2.drewN n') (fun _ _ j _ => ls.length - (intOf j).toNat)
          case atStart => exact ⟨0, _, Nat.zero_le _, rfl, rfl, rfl, by first | rfl | exact World.drewN_drewN _ _ _⟩
          case round =>
            obtain ⟨q, n', hq, rfl, rfl, rfl, rfl⟩ := hrel
            by_cases hql : q < ls.length
            · obtain ⟨A, C, hck, hLq, _⟩ := HC.out q hql
              have hlen := (HK.out q hql).2.1
              have hiq : i < (Tb.row ls q).length := by omega
              clear hlen
              obtain ⟨b2, o2, rfl, hc2⟩ := hLq.get hiq
              have hck2 := hc2 i hiq
              clear hc2 hLq
              have hm1 := Tb.lo_step ls i q
              have hm2 := Tb.hi_step ls i q
              obtain ⟨l, el⟩ : ∃ l, Tb.lo ls i q = l := ⟨_, rfl⟩
              obtain ⟨m, em⟩ : ∃ m, Tb.hi ls i q = m := ⟨_, rfl⟩
              obtain ⟨l', el'⟩ : ∃ l, Tb.lo ls i (q + 1) = l := ⟨_, rfl⟩
              obtain ⟨m', em'⟩ : ∃ m, Tb.hi ls i (q + 1) = m := ⟨_, rfl⟩
              rw [el, el'] at hm1
              rw [em, em'] at hm2
              rw [el, em]
              have EL' : Hid (Tb.lo ls i (q + 1) = l') := el'
              have EM' : Hid (Tb.hi ls i (q + 1) = m') := em'
              clear el em el' em'
              have e3 : (i : Int) < ((Tb.row ls q).length : Int) := by omega
              go_wp2
              go_quiet (fail)
              go_wp2
              go_roundw
              case rel => exact ⟨q + 1, _, by omega, by go_num, by rw [EL'.out], by rw [EM'.out], rfl⟩
              case measure => simp [intOf]; omega
            · have e : q = ls.length := by omega
              subst e
              obtain ⟨l, el⟩ : ∃ l, Tb.lo ls i ls.length = l := ⟨_, rfl⟩
              obtain ⟨m, em⟩ : ∃ m, Tb.hi ls i ls.length = m := ⟨_, rfl⟩
              have hbt := HBT.out
              rw [el, em] at hbt
              rw [el, em]
              clear el em
              have f1 : decide (y < l) = false := by simp; omega
              have f2 : decide (m < y) = false := by simp; omega
              clear hbt
              go_wp2
              go_roundw
              case rel => exact ⟨i + 1, _, by omega, by go_num, rfl⟩
              case measure => simp [intOf]; omega
        · go_wp2_with (go_at_call 8; refine (sfAwake_any _).mono ?_; rintro e wa ⟨rfl, hb⟩)
          go_ret
          exact ⟨rfl, below_then (below_drewN W2.out _) hb⟩

set_option maxRecDepth 100000 in
theorem lifted (os : Os) (started : os.Started) (H : Type) (enc : TypeId × Value → H) :
    ReturnsInHanded {} Try.checked os 6 .any (Rows.softBetweenSpec.pre6 enc Try.prog Try.f6 Rows.softBetweenRow.domain false) (Rows.softBetweenSpec.post enc Try.prog Try.f6 false true false false) := by
  refine returnsInHanded_of_change (C := Try.checked) own started (by kernel_rfl) Try.func6
    (ChangeSpec.witness6 (enc := enc) (C := Try.checked) false ⟨#[], #[.slice none 0 0, .slice none 0 0], []⟩ 8 (by kernel_rfl) (by kernel_rfl) (by kernel_rfl) (by kernel_rfl)) ?_
  intro W base args ds gs before hval0 hW hcnd _
  have hval : ∀ (j : Nat) t v, Try.f6.params[j]? = some t → args[j]? = some v → Value.okWide Try.prog W .any base t v := hval0
  have hW' := hW
  obtain ⟨p, q, hA0, hV, rfl, hfz, hnd⟩ := hW
  have hA : DataW.TrodAll enc Try.prog W 0 (fun _ => true) true Try.f6.params.toList args.toList ds p := hA0
  rw [Try.params6] at hA hval
  obtain ⟨v0, vs0, d0, ds0, p0, q0, hargs, rfl, rfl, h0, r0⟩ := trodAll_cons hA
  obtain ⟨v1, vs1, d1, ds1, p1, q1, rfl, rfl, rfl, h1, r1⟩ := trodAll_cons r0
  obtain ⟨rfl, rfl, rfl⟩ := trodAll_nil r1
  obtain rfl : args = #[v0, v1] := by cases args; simp_all
  obtain ⟨rfl, rfl⟩ := trodVars_none hV
  obtain ⟨a0, len0, cap0, rfl⟩ := okWide_slice Try.underlying22 (hval 0 22 v0 rfl rfl)
  have k0 := h0
  have lt0 : ∀ x ∈ p0, x.block < W.heap.size := by obtain ⟨m, hm⟩ := k0; exact DataW.trod_lt m _ _ _ hm
  obtain ⟨z0, w0⟩ : ∃ zs, IsRow .i32 W a0 len0 cap0 zs := by
    obtain ⟨fuel, hf⟩ := h0
    rcases open_ints Try.underlying22 Try.underlying21 (by kernel_rfl) hf with ⟨hcs, _⟩ | ⟨x, l, c, zs, hcs, _, hl, hm, hz, _, hcell, hwz⟩
    · simp [Value.cells] at hcs
      obtain ⟨rfl, rfl, rfl⟩ := hcs
      exact ⟨[], .inl ⟨rfl, rfl, rfl, rfl⟩⟩
    · simp [Value.cells] at hcs
      obtain ⟨rfl, rfl, rfl⟩ := hcs
      exact ⟨zs, .inr ⟨_, rfl, hl, hm, by simpa using hz, hcell, hwz⟩⟩
  obtain ⟨a1, len1, cap1, rfl⟩ := okWide_slice Try.underlying33 (hval 1 33 v1 rfl rfl)
  have k1 := h1
  have lt1 : ∀ x ∈ p1, x.block < W.heap.size := by obtain ⟨m, hm⟩ := k1; exact DataW.trod_lt m _ _ _ hm
  have w1 : IsTable W a1 len1 cap1 := by
    obtain ⟨fuel, hf⟩ := h1
    rcases Go.Deep.open_int_rows Try.underlying33 Try.underlying22 Try.underlying21 (by kernel_rfl) (by kernel_rfl) hf with ⟨hcs, _⟩ | ⟨x, l, c, A, L, C, Z, hcs, _, hl, hm, _, hr⟩
    · simp [Value.cells] at hcs
      obtain ⟨rfl, rfl, rfl⟩ := hcs
      exact .inl ⟨rfl, rfl, rfl⟩
    · simp [Value.cells] at hcs
      obtain ⟨rfl, rfl, rfl⟩ := hcs
      refine .inr ⟨x, A, L, C, Z, rfl, hl, hm, fun r hr' => ?_⟩
      obtain ⟨q1, q2, q3, q4, q5, q6, q7⟩ := hr r hr'
      exact ⟨q1, q2, q3, q4, q5, q6, fun a' ha => (q7 a' ha).2⟩
  clear hA0 hval0
  refine (walk a0 len0 cap0 z0 a1 len1 cap1 W w0 w1).mono fun e W' ⟨he, bel⟩ => ?_
  subst he
  exact ⟨_, rfl, _, _, _, [], _, [], hW', trodAll_mk1 (shut_bool Try.underlying4 _), (trodAll_cons_mk (Below.trod laidOut (by kernel_rfl) (of_decide_eq_true (by kernel_rfl)) k0 bel lt0) (trodAll_cons_mk (Below.trod laidOut (by kernel_rfl) (of_decide_eq_true (by kernel_rfl)) k1 bel lt1) trodAll_mk0)), rfl, bel.frame _, fun h => by cases h⟩

theorem over : Rows.softBetweenRow.holds Try.pinned (OpenSpec.ofChange Rows.softBetweenSpec) :=
  OpenClaim.holds_of_wide 6 Try.f6 rfl rfl rfl rfl rfl rfl rfl ⟨rfl, rfl, rfl, rfl, rfl⟩ rfl rfl rfl rfl rfl (by kernel_rfl) Try.func6 (by kernel_rfl)
    (of_decide_eq_true (by kernel_rfl)) (by unfold Func.isWrapper; first | (rw [if_pos (by decide +kernel)]; kernel_rfl) | (rw [if_neg (by decide +kernel)]; exact ⟨rfl, rfl⟩))
    (fun os started H enc _ => lifted os started H enc)

theorem proved : Rows.SoftBetweenSaid := over
end Go.Proofs.Ytnpoaalopppanaa.softBetween

namespace Go.Proofs.Ytnpoaalopppanaa
theorem softBetween_holds : Rows.SoftBetweenSaid := softBetween.proved
#print axioms softBetween_holds
end Go.Proofs.Ytnpoaalopppanaa
