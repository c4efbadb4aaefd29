/- A pool of any slots answers any calls as the document says, and its free slots are so behind each; nothing that lay before is changed. -/
import Derived.Test.YtgpjmbhcfjafmaaRows
import Derived.Test.YtgpjmbhcfjafmaaPoB
import Derived.WalkKit
import Derived.ProofKit
import Derived.OpenShut
import Derived.ShutString
import Derived.ChangeOld
import Derived.Below
namespace Go.Proofs.Ytgpjmbhcfjafmaa.poolPlays
open Go.ChangeShapes Go.WideShapes Go.ChangeAt Go.RowKit
set_option linter.unusedVariables false

theorem own : ownKnob Try.prog.godebug = none := by kernel_rfl
theorem laidOut : laidOutB Try.prog = true := by kernel_rfl

/-- What the walk is told of a slice of integers that came in. -/
def IsRow (k : IntKind) (w : World) (a : Option Addr) (len cap : Nat) (zs : List Int) : Prop :=
  (a = none ∧ len = 0 ∧ cap = 0 ∧ zs = []) ∨
  ∃ x, a = some x ∧ len ≤ cap ∧ cap ≤ maxLen ∧ zs.length = cap ∧ (∀ i, i < zs.length → w.cell? (x.add i) = some (.int k (zs.getD i 0))) ∧ ∀ n ∈ zs, (Lit.int k n).wf = true

set_option maxRecDepth 100000 in
set_option maxHeartbeats 3200000 in
theorem walk (a0 : Int) (a1 : Option Addr) (len1 cap1 : Nat) (w : World) (w0 : (Lit.int .i64 a0).wf = true) (w1 : IsPairs w a1 len1 cap1) :
    Calls Try.prog 3 #[.int .i64 a0, .slice a1 len1 cap1] w fun e w' => e = .returned (.bool true) ∧ Below w.heap.size w w' := by
  -- depth
  obtain ⟨K, N, PL, NB, ML⟩ := pairs_open w1
  have HP : Hid (Prs w a1 len1 K N) := PL
  have hz := bounds_i64 w0
  unfold maxLen at ML
  clear w0 w1 PL NB
  by_cases hm : 60 < len1
  · go_enter Try.func3, Try.ntmps3
    go_wp2_with (go_at_call 7; refine (poAwake_any _).mono ?_; rintro e wa ⟨rfl, hba⟩)
    go_ret
    exact ⟨rfl, hba⟩
  have gl : decide ((60 : Int) < (len1 : Int)) = false := decide_eq_false (by omega)
  have hl1 : len1 ≤ 60 := by omega
  clear hm ML
  by_cases h0 : a0 < 0
  · have g1 : decide ((100 : Int) < a0) = false := decide_eq_false (by omega)
    go_enter Try.func3, Try.ntmps3
    go_wp2_with fail
    refine (newPool_bad a0 (Or.inl h0) _).mono ?_
    rintro e w' ⟨rfl, hww⟩
    cases hww.symm
    clear hww
    go_wp2_with (go_at_call 7; refine (poAwake_any _).mono ?_; rintro e wa ⟨rfl, hba⟩)
    go_ret
    exact ⟨rfl, hba⟩
  by_cases h1 : 16384 < a0
  · have g1 : decide ((100 : Int) < a0) = true := decide_eq_true (by omega)
    have g2 : decide (a0 ≤ (16384 : Int)) = false := decide_eq_false (by omega)
    have g3 : decide (a0 < 0) = false := decide_eq_false (by omega)
    go_enter Try.func3, Try.ntmps3
    go_wp2_with fail
    refine (newPool_bad a0 (Or.inr h1) _).mono ?_
    rintro e w' ⟨rfl, hww⟩
    cases hww.symm
    clear hww
    go_wp2_with (go_at_call 7; refine (poAwake_any _).mono ?_; rintro e wa ⟨rfl, hba⟩)
    go_ret
    exact ⟨rfl, hba⟩
  by_cases h2 : 100 < a0
  · have g1 : decide ((100 : Int) < a0) = true := decide_eq_true (by omega)
    have g2 : decide (a0 ≤ (16384 : Int)) = true := decide_eq_true (by omega)
    go_enter Try.func3, Try.ntmps3
    go_wp2_with (go_at_call 7; refine (poAwake_any _).mono ?_; rintro e wa ⟨rfl, hba⟩)
    go_ret
    exact ⟨rfl, hba⟩
  obtain ⟨n, rfl⟩ : ∃ n : Nat, a0 = n := ⟨a0.toNat, by omega⟩
  have hn : n ≤ 100 := by omega
  have g1 : decide ((100 : Int) < (n : Int)) = false := decide_eq_false (by omega)
  clear h0 h1 h2 hz
  go_enter Try.func3, Try.ntmps3
  go_wp2_with fail
  refine (newPool_ok n (by omega) _).mono ?_
  rintro e w1 ⟨g, b, rfl, hp, hg, hb, hbel⟩
  have G1 : w.heap.size ≤ g ∧ w.heap.size ≤ b := ⟨hg, hb⟩
  have P1 : Hid (PoolAt w1 g b n (Po.zeros n) (Po.zeros n)) := hp
  have B1 : Hid (Below w.heap.size w w1) := hbel
  obtain ⟨lg, lb⟩ := hp.lt
  clear hp hg hb hbel
  go_wp2_with fail
  refine (refNew_any n (by omega) _).mono ?_
  rintro e w2 ⟨s1, c1, s2, c2, rfl, hL1, hL2, hC1, hC2, hO1, hO2, hbel⟩
  have hz2 := hbel.size
  have R2 : Hid (RefAt w2 g b n (Po.zeros n) (Po.zeros n) (.slice s1 n c1) (.slice s2 n c2)) := ⟨s1, c1, s2, c2, rfl, rfl, hL1, hL2, hC1, hC2, off_of hO1 lg lb, off_of hO2 lg lb⟩
  have P2 : Hid (PoolAt w2 g b n (Po.zeros n) (Po.zeros n)) := P1.out.keep hbel
  have B2 : Hid (Below w.heap.size w w2) := below_then B1.out hbel
  clear hL1 hL2 hC1 hC2 hO1 hO2 hbel P1 B1
  go_wp2_with fail
  obtain ⟨u, hu⟩ : ∃ u, w2.alloc (.cells #[.slice s1 n c1, .slice s2 n c2] 30) = u := ⟨_, rfl⟩
  have BU : Hid (Below w.heap.size w u) := by rw [← hu]; exact below_then B2.out (box_below _ _)
  have PU : Hid (PoolAt u g b n (Po.zeros n) (Po.zeros n)) := by rw [← hu]; exact P2.out.keep (box_below _ _)
  have OU : Hid (OwnRef u g b n (Po.zeros n) (Po.zeros n) w2.heap.size (.slice s1 n c1) (.slice s2 n c2)) := by rw [← hu]; exact ⟨rfc_alloc _ _ _ _, R2.out.keep (box_below _ _), by omega, by omega⟩
  rw [hu]
  clear hu P2 R2 B2
  go_loopw [53] (fun i wr => ∃ (k : Nat) (R M : List Int) (t1 t2 : Value), k ≤ len1 ∧ i = .int .i64 k ∧ Hid (PoolAt wr g b n R M) ∧ Hid (OwnRef wr g b n R M w2.heap.size t1 t2) ∧ Hid (∀ i, Ls.nth R i ≤ k) ∧ Hid (Below w.heap.size w wr)) (fun i _ => len1 - (intOf i).toNat)
  case atStart => exact ⟨0, _, _, _, _, Nat.zero_le _, rfl, PU.out, OU.out, (fun i => by rw [Po.nth_zeros]; omega), BU.out⟩
  case round =>
    obtain ⟨k, R, M, t1, t2, hk, rfl, PR, OR, MR, BR⟩ := hrel
    by_cases hlt : k < len1
    · obtain ⟨b1, o1, rfl, hc1, hc2⟩ := HP.out.keep BR.out k hlt
      obtain ⟨kd, ekd⟩ : ∃ kd, K k = kd := ⟨_, rfl⟩
      obtain ⟨nn, en⟩ : ∃ nn, N k = nn := ⟨_, rfl⟩
      rw [ekd] at hc1
      rw [en] at hc2
      obtain ⟨d0, d1⟩ := OR.out.cells
      have hH := OR.out.1.lt
      clear ekd en
      go_wp2_with fail
      clear d0 d1 hc1 hc2
      obtain ⟨v, hv⟩ : ∃ v, wr.alloc (.cells #[.int .i64 kd, .int .i64 nn] 33) = v := ⟨_, rfl⟩
      have PV : Hid (PoolAt v g b n R M) := by rw [← hv]; exact PR.out.keep (box_below _ _)
      have OV : Hid (OwnRef v g b n R M w2.heap.size t1 t2) := by rw [← hv]; exact OR.out.keep (box_below _ _)
      have BV : Hid (Below w.heap.size w v) := by rw [← hv]; exact below_then BR.out (box_below _ _)
      rw [hv]
      clear hv PR OR BR hH
      refine (stepA_any g b n kd nn t1 t2 R M v PV.out OV.out.2.1 (fun i => by have := MR.out i; omega)).mono ?_
      rintro e v1 ⟨p1, p2, R2, M2, rfl, hp, hr, hle, hbt⟩
      have hr2 := hr
      obtain ⟨pa, pc, pb, pd, rfl, rfl, hA1, hA2, _⟩ := hr2
      obtain ⟨⟨d0, d1⟩, f0, f1⟩ := own_cells OV.out hbt
      have PA : Hid (PoolAt ((v1.setCell ⟨w2.heap.size, 0, none⟩ (.slice pa n pc)).setCell ⟨w2.heap.size, 1, none⟩ (.slice pb n pd)) g b n R2 M2) := OV.out.pool hbt hp (.slice pa n pc) (.slice pb n pd)
      have OA : Hid (OwnRef ((v1.setCell ⟨w2.heap.size, 0, none⟩ (.slice pa n pc)).setCell ⟨w2.heap.size, 1, none⟩ (.slice pb n pd)) g b n R2 M2 w2.heap.size (.slice pa n pc) (.slice pb n pd)) := OV.out.put hbt hr
      have BA : Hid (Below w.heap.size w ((v1.setCell ⟨w2.heap.size, 0, none⟩ (.slice pa n pc)).setCell ⟨w2.heap.size, 1, none⟩ (.slice pb n pd))) := ((BV.out.trans (hbt.below G1.1 G1.2)).setCell (by show w.heap.size ≤ w2.heap.size; omega) _).setCell (by show w.heap.size ≤ w2.heap.size; omega) _
      have MA : Hid (∀ i, Ls.nth R2 i ≤ ((k + 1 : Nat) : Int)) := fun i => by have h1 := hle i; have h2 := MR.out i; omega
      clear hp hr hle hbt hA1 hA2
      go_wp2_with fail
      clear d0 d1 f0 f1
      obtain ⟨v2, hv2⟩ : ∃ v2, (v1.setCell ⟨w2.heap.size, 0, none⟩ (.slice pa n pc)).setCell ⟨w2.heap.size, 1, none⟩ (.slice pb n pd) = v2 := ⟨_, rfl⟩
      rw [hv2] at PA OA BA
      try rw [hv2]
      clear hv2
      obtain ⟨d0, d1⟩ := OA.out.cells
      have KS : Hid (∀ w', Below v2.heap.size v2 w' → (w'.cell? ⟨w2.heap.size, 0, none⟩ = some (.slice pa n pc) ∧ w'.cell? ⟨w2.heap.size, 1, none⟩ = some (.slice pb n pd)) ∧ Hid (Below v2.heap.size v2 w')) := fun w' hb => ⟨(OA.out.keep hb).cells, hb⟩
      have hbc : Hid (Below v2.heap.size v2 v2.drew) := (Below.refl _ _).drew
      obtain ⟨ct, ect⟩ : ∃ ct, Po.cnt R2 = ct := ⟨_, rfl⟩
      have ECT : Hid (Po.cnt R2 = ct) := ect
      obtain ⟨us, eus⟩ : ∃ us, (Po.used R2).length = us := ⟨_, rfl⟩
      have EUS : Hid ((Po.used R2).length = us) := eus
      have LR2 : Hid (R2.length = n) := PA.out.nums.2.1
      have LU : us ≤ n := by rw [← eus, ← LR2.out]; exact Po.used_le R2
      obtain ⟨ya, yc, yb, yd, e1, e2, hA1, hA2, _⟩ := OA.out.2.1
      cases e1
      cases e2
      have LA : Hid (Lst .i64 v2 pa R2) := hA1
      clear d0 d1 ect eus hA1 hA2
      go_region_held3 (fun w' => (w'.cell? ⟨w2.heap.size, 0, none⟩ = some (.slice pa n pc) ∧ w'.cell? ⟨w2.heap.size, 1, none⟩ = some (.slice pb n pd)) ∧ Hid (Below v2.heap.size v2 w'))
        (first
          | exact KS.out _ hbc.out
          | assumption)
        (first
          | (go_at_call 11; (with_reducible refine (free_any g b n ct R2 M2 _ (PA.out.keep hbc.out) ECT.out).mono ?_); (rintro e w' ⟨rfl, hww⟩; have hbc : Hid (Below v2.heap.size v2 w') := (by rw [hww]; exact hbc.out); clear hww))
          | (go_at_call 12; (with_reducible refine (refFree_any pa pb n pc n pd ct R2 _ (LA.out.keep hbc.out) LR2.out ECT.out (by omega)).mono ?_); (rintro e v3 ⟨rfl, hb⟩; have hbc : Hid (Below v2.heap.size v2 v3) := below_then hbc.out hb; clear hb))
          | (go_at_call 13; (with_reducible refine (slots_any g b n R2 M2 _ (PA.out.keep hbc.out)).mono ?_); (rintro e w' ⟨rfl, hww⟩; have hbc : Hid (Below v2.heap.size v2 w') := (by rw [hww]; exact hbc.out); clear hww))
          | (go_at_call 15; (with_reducible refine (used_any g b n us R2 M2 _ (PA.out.keep hbc.out) EUS.out).mono ?_); (rintro e v4 ⟨ua, uc, rfl, hL, _, hb⟩; have hbc : Hid (Below v2.heap.size v2 v4) := below_then hbc.out hb; have LU1 : Hid (Lst .i64 v4 ua (Po.used R2)) := hL; clear hL hb))
          | (go_at_call 16; (with_reducible refine (refUsed_any pa pb n pc n pd us R2 _ (LA.out.keep hbc.out) LR2.out EUS.out (by omega)).mono ?_); (rintro e v5 ⟨xa, xc, rfl, hL, hb⟩; have hbc : Hid (Below v2.heap.size v2 v5) := below_then hbc.out hb; have LU2 : Hid (Lst .i64 v5 ua (Po.used R2) ∧ Lst .i64 v5 xa (Po.used R2)) := ⟨LU1.out.keep hb, hL⟩; clear hL hb))
          | (go_at_call 14; (with_reducible refine (sameP_any ua xa us uc xc (Po.used R2) _ LU2.out.1 LU2.out.2 EUS.out (by omega)).mono ?_); (rintro e v6 ⟨rfl, hb⟩; have hbc : Hid (Below v2.heap.size v2 v6) := below_then hbc.out hb; clear hb)))
      go_wp2
      go_roundw
      case rel => exact ⟨k + 1, R2, M2, _, _, by omega, by go_num, PA.out.keep hbc.out, OA.out.keep hbc.out, MA.out, below_then BA.out hbc.out⟩
      case measure => simp [intOf]; omega
    · go_wp2_with (go_at_call 7; refine (poAwake_any _).mono ?_; rintro e wa ⟨rfl, hba⟩)
      go_ret
      exact ⟨rfl, below_then BR.out hba⟩

set_option maxRecDepth 100000 in
theorem lifted (os : Os) (started : os.Started) (H : Type) (enc : TypeId × Value → H) :
    ReturnsInHanded {} Try.checked os 3 .any (Rows.poolPlaysSpec.pre6 enc Try.prog Try.f3 Rows.poolPlaysRow.domain false) (Rows.poolPlaysSpec.post enc Try.prog Try.f3 false true false false) := by
  refine returnsInHanded_of_change (C := Try.checked) own started (by kernel_rfl) Try.func3
    (ChangeSpec.witness6 (enc := enc) (C := Try.checked) false ⟨#[], #[.int .i64 0, .slice none 0 0], []⟩ 8 (by kernel_rfl) (by kernel_rfl) (by kernel_rfl) (by kernel_rfl)) ?_
  intro W base args ds gs before hval0 hW hcnd _
  have hval : ∀ (j : Nat) t v, Try.f3.params[j]? = some t → args[j]? = some v → Value.okWide Try.prog W .any base t v := hval0
  have hW' := hW
  obtain ⟨p, q, hA0, hV, rfl, hfz, hnd⟩ := hW
  have hA : DataW.TrodAll enc Try.prog W 0 (fun _ => true) true Try.f3.params.toList args.toList ds p := hA0
  rw [Try.params3] at hA hval
  obtain ⟨v0, vs0, d0, ds0, p0, q0, hargs, rfl, rfl, h0, r0⟩ := trodAll_cons hA
  obtain ⟨v1, vs1, d1, ds1, p1, q1, rfl, rfl, rfl, h1, r1⟩ := trodAll_cons r0
  obtain ⟨rfl, rfl, rfl⟩ := trodAll_nil r1
  obtain rfl : args = #[v0, v1] := by cases args; simp_all
  obtain ⟨rfl, rfl⟩ := trodVars_none hV
  obtain ⟨a0, rfl, rfl, rfl, w0⟩ := open_int Try.underlying3 (hval 0 3 v0 rfl rfl) h0
  obtain ⟨a1, len1, cap1, rfl⟩ := okWide_slice Try.underlying22 (hval 1 22 v1 rfl rfl)
  have k1 := h1
  have lt1 : ∀ x ∈ p1, x.block < W.heap.size := by obtain ⟨m, hm⟩ := k1; exact DataW.trod_lt m _ _ _ hm
  have w1 : IsPairs W a1 len1 cap1 := by
    obtain ⟨fuel, hf⟩ := h1
    rcases Go.Deep.open_slice_pairs Try.underlying22 Try.underlying33 (by kernel_rfl) rfl rfl (by kernel_rfl) (by kernel_rfl) hf with ⟨hcs, _⟩ | ⟨x, l, c, m, n, V0, V1, D0, D1, P0, P1, hcs, _, hl, hm, hmm, _, hall⟩
    · simp [Value.cells] at hcs
      obtain ⟨rfl, rfl, rfl⟩ := hcs
      exact .inl ⟨rfl, rfl, rfl⟩
    · simp [Value.cells] at hcs
      obtain ⟨rfl, rfl, rfl⟩ := hcs
      simp only [if_true] at hmm
      refine .inr ⟨x, rfl, hl, hm, fun i hi => ?_⟩
      obtain ⟨q1, q2, q3, q4⟩ := hall i (by omega)
      obtain ⟨k, e1, _, _⟩ := DataW.trod_int Try.underlying3 q3
      obtain ⟨n', e2, _, hw⟩ := DataW.trod_int Try.underlying3 q4
      simp only [List.cons.injEq, and_true] at e1 e2
      rw [e1] at q1
      rw [e2] at q2
      exact ⟨k, n', q1, q2, bounds_i64 hw⟩
  clear hA0 hval0
  refine (walk a0 a1 len1 cap1 W w0 w1).mono fun e W' ⟨he, bel⟩ => ?_
  subst he
  exact ⟨_, rfl, _, _, _, [], _, [], hW', trodAll_mk1 (shut_bool Try.underlying4 _), (trodAll_cons_mk (shut_int Try.underlying3 w0) (trodAll_cons_mk (Below.trod laidOut (by kernel_rfl) (of_decide_eq_true (by kernel_rfl)) k1 bel lt1) trodAll_mk0)), rfl, bel.frame _, fun h => by cases h⟩

theorem over : Rows.poolPlaysRow.holds Try.pinned (OpenSpec.ofChange Rows.poolPlaysSpec) :=
  OpenClaim.holds_of_wide 3 Try.f3 rfl rfl rfl rfl rfl rfl rfl ⟨rfl, rfl, rfl, rfl, rfl⟩ rfl rfl rfl rfl rfl (by kernel_rfl) Try.func3 (by kernel_rfl)
    (of_decide_eq_true (by kernel_rfl)) (by unfold Func.isWrapper; first | (rw [if_pos (by decide +kernel)]; kernel_rfl) | (rw [if_neg (by decide +kernel)]; exact ⟨rfl, rfl⟩))
    (fun os started H enc _ => lifted os started H enc)

theorem proved : Rows.PoolPlaysSaid := over
end Go.Proofs.Ytgpjmbhcfjafmaa.poolPlays

namespace Go.Proofs.Ytgpjmbhcfjafmaa
theorem poolPlays_holds : Rows.PoolPlaysSaid := poolPlays.proved
#print axioms poolPlays_holds
end Go.Proofs.Ytgpjmbhcfjafmaa
