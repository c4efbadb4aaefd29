/- Free slots and the others are all, behind any calls, and a page that is held stays as it was put till it is dropped as often; nothing that lay before is changed. -/
import Derived.Test.YtgpjmbhcfjafmaaRows
import Derived.Test.YtgpjmbhcfjafmaaPoB
import Derived.WalkKit
import Derived.ProofKit
import Derived.OpenShut
import Derived.ShutString
import Derived.ChangeOld
import Derived.Below
namespace Go.Proofs.Ytgpjmbhcfjafmaa.poolParts
open Go.ChangeShapes Go.WideShapes Go.ChangeAt Go.RowKit
set_option linter.unusedVariables false

theorem own : ownKnob Try.prog.godebug = none := by kernel_rfl
theorem laidOut : laidOutB Try.prog = true := by kernel_rfl

/-- What the walk is told of a slice of integers that came in. -/
def IsRow (k : IntKind) (w : World) (a : Option Addr) (len cap : Nat) (zs : List Int) : Prop :=
  (a = none ∧ len = 0 ∧ cap = 0 ∧ zs = []) ∨
  ∃ x, a = some x ∧ len ≤ cap ∧ cap ≤ maxLen ∧ zs.length = cap ∧ (∀ i, i < zs.length → w.cell? (x.add i) = some (.int k (zs.getD i 0))) ∧ ∀ n ∈ zs, (Lit.int k n).wf = true

set_option maxRecDepth 100000 in
set_option maxHeartbeats 3200000 in
theorem walk (a0 : Int) (a1 : Option Addr) (len1 cap1 : Nat) (a2 : Int) (w : World) (w0 : (Lit.int .i64 a0).wf = true) (w1 : IsPairs w a1 len1 cap1) (w2 : (Lit.int .i64 a2).wf = true) :
    Calls Try.prog 4 #[.int .i64 a0, .slice a1 len1 cap1, .int .i64 a2] w fun e w' => e = .returned (.bool true) ∧ Below w.heap.size w w' := by
  -- depth
  obtain ⟨K, N, PL, NB, ML⟩ := pairs_open w1
  have HP : Hid (Prs w a1 len1 K N) := PL
  have hz := bounds_i64 w0
  have hz2 := bounds_i64 w2
  unfold maxLen at ML
  clear w0 w1 w2 PL NB
  by_cases hm : 40 < len1 ∨ a0 < 1 ∨ 60 < a0 ∨ a2 < 0 ∨ 20 < a2
  · by_cases q1 : 40 < len1 <;> by_cases q2 : a0 < 1 <;> by_cases q3 : 60 < a0 <;> by_cases q4 : a2 < 0 <;> by_cases q5 : 20 < a2
    all_goals first
      | (exfalso; omega)
      | (go_enter Try.func4, Try.ntmps4
         go_wp2_with (go_at_call 7; refine (poAwake_any _).mono ?_; rintro e wa ⟨rfl, hba⟩)
         go_ret
         exact ⟨rfl, hba⟩)
  obtain ⟨n, rfl⟩ : ∃ n : Nat, a0 = n := ⟨a0.toNat, by omega⟩
  obtain ⟨hd, rfl⟩ : ∃ n : Nat, a2 = n := ⟨a2.toNat, by omega⟩
  have hn : 1 ≤ n ∧ n ≤ 60 := by omega
  have hh : hd ≤ 20 := by omega
  have hl1 : len1 ≤ 40 := by omega
  have g1 : decide ((40 : Int) < (len1 : Int)) = false := decide_eq_false (by omega)
  have g2 : decide ((n : Int) < 1) = false := decide_eq_false (by omega)
  have g3 : decide ((60 : Int) < (n : Int)) = false := decide_eq_false (by omega)
  have g4 : decide ((20 : Int) < (hd : Int)) = false := decide_eq_false (by omega)
  clear hm hz hz2 ML
  go_enter Try.func4, Try.ntmps4
  go_wp2_with fail
  refine (newPool_ok n (by omega) _).mono ?_
  rintro e w1 ⟨g, b, rfl, hp, hg, hb, hbel⟩
  have G1 : w.heap.size ≤ g ∧ w.heap.size ≤ b := ⟨hg, hb⟩
  have P1 : Hid (PoolAt w1 g b n (Po.zeros n) (Po.zeros n)) := hp
  have B1 : Hid (Below w.heap.size w w1) := hbel
  obtain ⟨lg, lb⟩ := hp.lt
  clear hp hg hb hbel
  go_wp2_with fail
  refine (made_any 777 _).mono ?_
  rintro e w2 ⟨q, rfl, hq, hlt, hbel⟩
  have Q2 : Hid (PgM w2 q 777 ∧ ¬ q = g ∧ ¬ q = b) := ⟨hq, by omega, by omega⟩
  have P2 : Hid (PoolAt w2 g b n (Po.zeros n) (Po.zeros n)) := P1.out.keep hbel
  have B2 : Hid (Below w.heap.size w w2) := below_then B1.out hbel
  clear hq hlt hbel P1 B1
  go_wp2_with fail
  refine (put_ok g b n 0 q 777 (Po.zeros n) (Po.zeros n) w2 P2.out (by omega) (Po.nth_zeros n 0) (fun i hi => by omega) Q2.out.1 Q2.out.2.1 Q2.out.2.2).mono ?_
  rintro e w3 ⟨rfl, hp, hbt⟩
  have P3 : Hid (PoolAt w3 g b n ((Po.zeros n).set 0 1) ((Po.zeros n).set 0 777)) := hp
  have B3 : Hid (Below w.heap.size w w3) := B2.out.trans (hbt.below G1.1 G1.2)
  have Z0 : 0 < (Po.zeros n).length := by rw [Po.zeros_length]; omega
  have N3 : Hid (Ls.nth ((Po.zeros n).set 0 1) 0 = 1 ∧ Ls.nth ((Po.zeros n).set 0 777) 0 = 777 ∧ ∀ i, Ls.nth ((Po.zeros n).set 0 1) i ≤ 1) := ⟨by rw [Po.nth_set Z0, if_pos rfl], by rw [Po.nth_set Z0, if_pos rfl], fun i => by rw [Po.nth_set Z0, Po.nth_zeros]; split <;> omega⟩
  clear hp hbt P2 B2 Q2 Z0 lg lb
  go_wp2_with fail
  go_loopw [58] (fun i wr => ∃ (j : Nat) (R M : List Int), j ≤ hd ∧ i = .int .i64 j ∧ Hid (PoolAt wr g b n R M) ∧ Hid (Ls.nth R 0 = (j : Int) + 1 ∧ Ls.nth M 0 = 777 ∧ ∀ i, Ls.nth R i ≤ (j : Int) + 1) ∧ Hid (Below w.heap.size w wr)) (fun i _ => hd - (intOf i).toNat)
  case atStart => exact ⟨0, _, _, Nat.zero_le _, rfl, P3.out, N3.out, B3.out⟩
  case round =>
    clear P3 N3 B3
    obtain ⟨j, R, M, hj, rfl, PR, NR, BR⟩ := hrel
    have lR : Hid (R.length = n) := PR.out.nums.2.1
    by_cases hlt : j < hd
    · go_wp2_with fail
      refine (hold_some g b n 0 ((j : Int) + 1) R M _ PR.out (by omega) NR.out.1 (by omega) (by omega)).mono ?_
      rintro e v ⟨rfl, hp, hbt⟩
      have PV : Hid (PoolAt v g b n (R.set 0 ((j : Int) + 1 + 1)) M) := hp
      have BV : Hid (Below w.heap.size w v) := BR.out.trans (hbt.below G1.1 G1.2)
      have Z0 : Hid (0 < R.length) := by show 0 < R.length; rw [lR.out]; omega
      clear hp hbt
      go_wp2
      go_roundw
      case rel => exact ⟨j + 1, _, _, by omega, by go_num, PV.out, ⟨by rw [Po.nth_set Z0.out, if_pos rfl]; omega, NR.out.2.1, fun i => by rw [Po.nth_set Z0.out]; have := NR.out.2.2 i; split <;> omega⟩, BV.out⟩
      case measure => simp [intOf]; omega
    · have e : j = hd := by omega
      subst e
      clear hlt hj lR
      go_wp2_with fail
      go_loopw [67] (fun i wr => ∃ (k : Nat) (R M : List Int), k ≤ len1 ∧ i = .int .i64 k ∧ Hid (PoolAt wr g b n R M) ∧ Hid (Ls.nth R 0 = (j : Int) + 1 ∧ Ls.nth M 0 = 777 ∧ ∀ i, Ls.nth R i ≤ (j : Int) + 1 + k) ∧ Hid (Below w.heap.size w wr)) (fun i _ => len1 - (intOf i).toNat)
      case atStart => exact ⟨0, _, _, Nat.zero_le _, rfl, PR.out, ⟨NR.out.1, NR.out.2.1, fun i => by have := NR.out.2.2 i; omega⟩, BR.out⟩
      case round =>
        clear PR NR BR R M
        obtain ⟨k, R, M, hk, rfl, PR, NR, BR⟩ := hrel
        by_cases hlt : k < len1
        · obtain ⟨b1, o1, rfl, hc1, hc2⟩ := HP.out.keep BR.out k hlt
          obtain ⟨kd, ekd⟩ : ∃ kd, K k = kd := ⟨_, rfl⟩
          obtain ⟨nn, en⟩ : ∃ nn, N k = nn := ⟨_, rfl⟩
          rw [ekd] at hc1
          rw [en] at hc2
          clear ekd en
          by_cases n0 : nn = 0
          · subst n0
            go_wp2_with fail
            obtain ⟨v, hv⟩ : ∃ v, wr.alloc (.cells #[.int .i64 kd, .int .i64 0] 33) = v := ⟨_, rfl⟩
            have PV : Hid (PoolAt v g b n R M) := by rw [← hv]; exact PR.out.keep (box_below _ _)
            have BV : Hid (Below w.heap.size w v) := by rw [← hv]; exact below_then BR.out (box_below _ _)
            have OV : Hid (v.rowIs wr.heap.size 33 2 (rfc (.int .i64 kd) (.int .i64 0))) := by rw [← hv]; exact rfc_alloc _ _ _ _
            have hvs : v.heap.size = wr.heap.size + 1 := by rw [← hv]; simp
            rw [hv]
            clear hv PR BR hc1 hc2 OV
            obtain ⟨ct, ect⟩ : ∃ ct, Po.cnt R = ct := ⟨_, rfl⟩
            have ECT : Hid (Po.cnt R = ct) := ect
            obtain ⟨us, eus⟩ : ∃ us, (Po.used R).length = us := ⟨_, rfl⟩
            have EUS : Hid ((Po.used R).length = us) := eus
            have ecu : (ct : Int) + (us : Int) = (n : Int) := by
              have h1 := Po.cnt_used PV.out.nums.2.2.2.2
              have h2 := PV.out.nums.2.1
              omega
            clear ect eus
            go_wp2_with fail
            refine (get_some g b n 0 R M v PV.out (by omega) (by rw [NR.out.1]; omega)).mono ?_
            rintro e w' ⟨q, rfl, hq, hww⟩
            cases hww.symm
            have Q : Hid (PgM v q 777) := by
              rw [NR.out.2.1] at hq
              exact hq
            clear hww hq
            go_wp2_with fail
            refine (headM_any q 777 _ Q.out).mono ?_
            rintro e wh ⟨x0, x1, x2, x3, x4, x5, rfl, hbel⟩
            have PH : Hid (PoolAt wh g b n R M) := PV.out.keep hbel
            have BH : Hid (Below w.heap.size w wh) := below_then BV.out hbel
            have hfd := field_mark x0 x1 x2 x3 x4 x5 777
            clear hbel Q
            go_wp2_with fail
            refine (refs_some g b n 0 ((j : Int) + 1) R M _ PH.out (by omega) NR.out.1 (by omega)).mono ?_
            rintro e w' ⟨rfl, hww⟩
            cases hww.symm
            clear hww hfd
            go_wp2_with fail
            refine (free_any g b n ct R M _ PH.out ECT.out).mono ?_
            rintro e w' ⟨rfl, hww⟩
            cases hww.symm
            clear hww
            go_wp2_with fail
            refine (used_any g b n us R M _ PH.out EUS.out).mono ?_
            rintro e wu ⟨ua, uc, rfl, _, _, hbel⟩
            have PU : Hid (PoolAt wu g b n R M) := PH.out.keep hbel
            have BU : Hid (Below w.heap.size w wu) := below_then BH.out hbel
            clear hbel PH BH
            go_wp2
            go_roundw
            case rel => exact ⟨k + 1, _, _, by omega, by go_num, PU.out, ⟨NR.out.1, NR.out.2.1, fun i => by have := NR.out.2.2 i; omega⟩, BU.out⟩
            case measure => simp [intOf]; omega
          · have z0 : (nn == 0) = false := beq_eq_false_iff_ne.2 n0
            go_wp2_with fail
            obtain ⟨v, hv⟩ : ∃ v, wr.alloc (.cells #[.int .i64 kd, .int .i64 nn] 33) = v := ⟨_, rfl⟩
            have PV : Hid (PoolAt v g b n R M) := by rw [← hv]; exact PR.out.keep (box_below _ _)
            have BV : Hid (Below w.heap.size w v) := by rw [← hv]; exact below_then BR.out (box_below _ _)
            have OV : Hid (v.rowIs wr.heap.size 33 2 (rfc (.int .i64 kd) (.int .i64 nn))) := by rw [← hv]; exact rfc_alloc _ _ _ _
            have hvs : v.heap.size = wr.heap.size + 1 := by rw [← hv]; simp
            have hplt := PR.out.lt
            have KS : Hid (∀ w' : World, w'.heap[wr.heap.size]? = v.heap[wr.heap.size]? → w'.cell? ⟨wr.heap.size, 0, none⟩ = some (.int .i64 kd) ∧ w'.cell? ⟨wr.heap.size, 1, none⟩ = some (.int .i64 nn)) := fun w' hk => ⟨(OV.out.of_block hk).cell (show 0 < 2 by decide), (OV.out.of_block hk).cell (show 1 < 2 by decide)⟩
            have hkc : Hid (v.drew.heap[wr.heap.size]? = v.heap[wr.heap.size]?) := rfl
            have hbc : Hid (Below v.heap.size v v.drew) := (Below.refl _ _).drew
            rw [hv]
            clear hv hc1 hc2
            go_region_held3 (fun w' => w'.cell? ⟨wr.heap.size, 0, none⟩ = some (.int .i64 kd) ∧ w'.cell? ⟨wr.heap.size, 1, none⟩ = some (.int .i64 nn))
              (first
                | exact KS.out _ hkc.out
                | assumption)
              (first
                | (go_at_call 9; (refine (refNew_any 0 (by omega) _).mono ?_); (rintro e v1 ⟨s1, c1, s2, c2, rfl, hL1, hL2, hC1, hC2, hO1, hO2, hb⟩; have hs1 := hbc.out.size; have RF : Hid (RefAt v1 g b 0 [] [] (.slice s1 0 c1) (.slice s2 0 c2)) := ⟨s1, c1, s2, c2, rfl, rfl, hL1, hL2, hC1, hC2, off_of hO1 (by omega) (by omega), off_of hO2 (by omega) (by omega)⟩; have hbc : Hid (Below v.heap.size v v1) := below_then hbc.out hb; have hkc : Hid (v1.heap[wr.heap.size]? = v.heap[wr.heap.size]?) := hbc.out.block _ (by omega); clear hL1 hL2 hC1 hC2 hO1 hO2 hb hs1))
                | (go_at_call 10; (with_reducible refine (stepB_any g b n kd nn (.slice s1 0 c1) (.slice s2 0 c2) R M _ (PV.out.keep hbc.out) RF.out (fun i => by have := NR.out.2.2 i; omega)).mono ?_); (rintro e v2 ⟨vv, R2, M2, rfl, hp, hle, hst, hbt⟩; have P2 : Hid (PoolAt v2 g b n R2 M2) := hp; have N2 : Hid (Ls.nth R2 0 = (j : Int) + 1 ∧ Ls.nth M2 0 = 777 ∧ ∀ i, Ls.nth R2 i ≤ (j : Int) + 1 + k + 1) := ⟨(hst 0 (by rw [NR.out.1]; omega) (fun e => n0 e.symm)).1.trans NR.out.1, (hst 0 (by rw [NR.out.1]; omega) (fun e => n0 e.symm)).2.trans NR.out.2.1, fun i => by have h1 := hle i; have h2 := NR.out.2.2 i; omega⟩; have B2 : Hid (Below w.heap.size w v2) := (below_then BV.out hbc.out).trans (hbt.below G1.1 G1.2); have hkc : Hid (v2.heap[wr.heap.size]? = v.heap[wr.heap.size]?) := (hbt.2 _ (by have := hbc.out.size; omega) (by omega) (by omega)).trans hkc.out; clear hp hle hst hbt)))
            clear KS hkc hbc OV PV BV hvs hplt NR
            obtain ⟨ct, ect⟩ : ∃ ct, Po.cnt R2 = ct := ⟨_, rfl⟩
            have ECT : Hid (Po.cnt R2 = ct) := ect
            obtain ⟨us, eus⟩ : ∃ us, (Po.used R2).length = us := ⟨_, rfl⟩
            have EUS : Hid ((Po.used R2).length = us) := eus
            have ecu : (ct : Int) + (us : Int) = (n : Int) := by
              have h1 := Po.cnt_used P2.out.nums.2.2.2.2
              have h2 := P2.out.nums.2.1
              omega
            clear ect eus
            go_wp2_with fail
            refine (get_some g b n 0 R2 M2 v2 P2.out (by omega) (by rw [N2.out.1]; omega)).mono ?_
            rintro e w' ⟨q, rfl, hq, hww⟩
            cases hww.symm
            have Q : Hid (PgM v2 q 777) := by
              rw [N2.out.2.1] at hq
              exact hq
            clear hww hq
            go_wp2_with fail
            refine (headM_any q 777 _ Q.out).mono ?_
            rintro e wh ⟨x0, x1, x2, x3, x4, x5, rfl, hbel⟩
            have PH : Hid (PoolAt wh g b n R2 M2) := P2.out.keep hbel
            have BH : Hid (Below w.heap.size w wh) := below_then B2.out hbel
            have hfd := field_mark x0 x1 x2 x3 x4 x5 777
            clear hbel Q
            go_wp2_with fail
            refine (refs_some g b n 0 ((j : Int) + 1) R2 M2 _ PH.out (by omega) N2.out.1 (by omega)).mono ?_
            rintro e w' ⟨rfl, hww⟩
            cases hww.symm
            clear hww hfd
            go_wp2_with fail
            refine (free_any g b n ct R2 M2 _ PH.out ECT.out).mono ?_
            rintro e w' ⟨rfl, hww⟩
            cases hww.symm
            clear hww
            go_wp2_with fail
            refine (used_any g b n us R2 M2 _ PH.out EUS.out).mono ?_
            rintro e wu ⟨ua, uc, rfl, _, _, hbel⟩
            have PU : Hid (PoolAt wu g b n R2 M2) := PH.out.keep hbel
            have BU : Hid (Below w.heap.size w wu) := below_then BH.out hbel
            clear hbel PH BH
            go_wp2
            go_roundw
            case rel => exact ⟨k + 1, _, _, by omega, by go_num, PU.out, ⟨N2.out.1, N2.out.2.1, fun i => by have := N2.out.2.2 i; omega⟩, BU.out⟩
            case measure => simp [intOf]; omega
        · have e : k = len1 := by omega
          subst e
          clear hlt hk
          have XR : Hid (∀ i, Ls.nth R i < 90000) := fun i => by have := NR.out.2.2 i; omega
          have N4 : Hid (Ls.nth R 0 = (j : Int) + 1) := NR.out.1
          have EJ : IntKind.i64.wrap ((j : Int) + 1) = (j : Int) + 1 := by rw [IntKind.wrap_i64]; omega
          clear NR
          go_wp2_with fail
          go_loopw [118] (fun i wr => ∃ (t : Nat) (R M : List Int), t ≤ j + 1 ∧ i = .int .i64 t ∧ Hid (PoolAt wr g b n R M) ∧ Hid (Ls.nth R 0 = (j : Int) + 1 - t) ∧ Hid (Below w.heap.size w wr)) (fun i _ => j + 1 - (intOf i).toNat)
          case atStart => exact ⟨0, _, _, Nat.zero_le _, rfl, PR.out, (by show Ls.nth R 0 = _; rw [N4.out]; simp), BR.out⟩
          case round =>
            clear PR BR XR N4 R M
            obtain ⟨t, R, M, ht, rfl, PR, NR, BR⟩ := hrel
            have lR : Hid (R.length = n) := PR.out.nums.2.1
            by_cases hlt : t < j + 1
            · obtain ⟨x, ex⟩ : ∃ x : Nat, j + 1 - t = x := ⟨_, rfl⟩
              have EX : Hid (Ls.nth R 0 = (x : Int)) := by show _ = _; rw [NR.out]; omega
              have exj : (j : Int) + 1 - (t : Int) = (x : Int) := by omega
              have hx : 1 ≤ x ∧ x ≤ 21 := by omega
              go_wp2_with fail
              refine (refs_some g b n 0 (x : Int) R M _ PR.out (by omega) EX.out (by omega)).mono ?_
              rintro e w' ⟨rfl, hww⟩
              cases hww.symm
              clear hww
              go_wp2_with fail
              by_cases x1 : x = 1
              · refine (drop_last g b n 0 R M _ PR.out (by omega) (by rw [EX.out, x1]; rfl)).mono ?_
                rintro e v ⟨rfl, hp, hbt⟩
                have PV : Hid (PoolAt v g b n (R.set 0 0) M) := hp
                have BV : Hid (Below w.heap.size w v) := BR.out.trans (hbt.below G1.1 G1.2)
                have Z0 : Hid (0 < R.length) := by show 0 < R.length; rw [lR.out]; omega
                clear hp hbt exj
                go_wp2
                go_roundw
                case rel => exact ⟨t + 1, _, _, by omega, by go_num, PV.out, (by show Ls.nth _ 0 = _; rw [Po.nth_set Z0.out, if_pos rfl]; omega), BV.out⟩
                case measure => simp [intOf]; omega
              · refine (drop_more g b n 0 (x : Int) R M _ PR.out (by omega) EX.out (by omega) (by omega)).mono ?_
                rintro e v ⟨rfl, hp, hbt⟩
                have PV : Hid (PoolAt v g b n (R.set 0 ((x : Int) - 1)) M) := hp
                have BV : Hid (Below w.heap.size w v) := BR.out.trans (hbt.below G1.1 G1.2)
                have Z0 : Hid (0 < R.length) := by show 0 < R.length; rw [lR.out]; omega
                clear hp hbt exj
                go_wp2
                go_roundw
                case rel => exact ⟨t + 1, _, _, by omega, by go_num, PV.out, (by show Ls.nth _ 0 = _; rw [Po.nth_set Z0.out, if_pos rfl]; omega), BV.out⟩
                case measure => simp [intOf]; omega
            · have e : t = j + 1 := by omega
              subst e
              have EX : Hid (Ls.nth R 0 = 0) := by show _ = _; rw [NR.out]; omega
              go_wp2_with fail
              refine (get_none g b n 0 R M _ PR.out (fun q => by have := q.2.2; rw [show (0 : Int).toNat = 0 from rfl, EX.out] at this; omega)).mono ?_
              rintro e w' ⟨rfl, hww⟩
              cases hww.symm
              clear hww
              go_wp2_with fail
              refine (refs_none g b n 0 R M _ PR.out (fun q => by have := q.2.2; rw [show (0 : Int).toNat = 0 from rfl, EX.out] at this; omega)).mono ?_
              rintro e w' ⟨rfl, hww⟩
              cases hww.symm
              clear hww
              go_wp2_with (go_at_call 7; refine (poAwake_any _).mono ?_; rintro e wa ⟨rfl, hba⟩)
              go_ret
              exact ⟨rfl, below_then BR.out hba⟩

set_option maxRecDepth 100000 in
theorem lifted (os : Os) (started : os.Started) (H : Type) (enc : TypeId × Value → H) :
    ReturnsInHanded {} Try.checked os 4 .any (Rows.poolPartsSpec.pre6 enc Try.prog Try.f4 Rows.poolPartsRow.domain false) (Rows.poolPartsSpec.post enc Try.prog Try.f4 false true false false) := by
  refine returnsInHanded_of_change (C := Try.checked) own started (by kernel_rfl) Try.func4
    (ChangeSpec.witness6 (enc := enc) (C := Try.checked) false ⟨#[], #[.int .i64 0, .slice none 0 0, .int .i64 0], []⟩ 8 (by kernel_rfl) (by kernel_rfl) (by kernel_rfl) (by kernel_rfl)) ?_
  intro W base args ds gs before hval0 hW hcnd _
  have hval : ∀ (j : Nat) t v, Try.f4.params[j]? = some t → args[j]? = some v → Value.okWide Try.prog W .any base t v := hval0
  have hW' := hW
  obtain ⟨p, q, hA0, hV, rfl, hfz, hnd⟩ := hW
  have hA : DataW.TrodAll enc Try.prog W 0 (fun _ => true) true Try.f4.params.toList args.toList ds p := hA0
  rw [Try.params4] at hA hval
  obtain ⟨v0, vs0, d0, ds0, p0, q0, hargs, rfl, rfl, h0, r0⟩ := trodAll_cons hA
  obtain ⟨v1, vs1, d1, ds1, p1, q1, rfl, rfl, rfl, h1, r1⟩ := trodAll_cons r0
  obtain ⟨v2, vs2, d2, ds2, p2, q2, rfl, rfl, rfl, h2, r2⟩ := trodAll_cons r1
  obtain ⟨rfl, rfl, rfl⟩ := trodAll_nil r2
  obtain rfl : args = #[v0, v1, v2] := by cases args; simp_all
  obtain ⟨rfl, rfl⟩ := trodVars_none hV
  obtain ⟨a0, rfl, rfl, rfl, w0⟩ := open_int Try.underlying3 (hval 0 3 v0 rfl rfl) h0
  obtain ⟨a1, len1, cap1, rfl⟩ := okWide_slice Try.underlying22 (hval 1 22 v1 rfl rfl)
  have k1 := h1
  have lt1 : ∀ x ∈ p1, x.block < W.heap.size := by obtain ⟨m, hm⟩ := k1; exact DataW.trod_lt m _ _ _ hm
  have w1 : IsPairs W a1 len1 cap1 := by
    obtain ⟨fuel, hf⟩ := h1
    rcases Go.Deep.open_slice_pairs Try.underlying22 Try.underlying33 (by kernel_rfl) rfl rfl (by kernel_rfl) (by kernel_rfl) hf with ⟨hcs, _⟩ | ⟨x, l, c, m, n, V0, V1, D0, D1, P0, P1, hcs, _, hl, hm, hmm, _, hall⟩
    · simp [Value.cells] at hcs
      obtain ⟨rfl, rfl, rfl⟩ := hcs
      exact .inl ⟨rfl, rfl, rfl⟩
    · simp [Value.cells] at hcs
      obtain ⟨rfl, rfl, rfl⟩ := hcs
      simp only [if_true] at hmm
      refine .inr ⟨x, rfl, hl, hm, fun i hi => ?_⟩
      obtain ⟨q1, q2, q3, q4⟩ := hall i (by omega)
      obtain ⟨k, e1, _, _⟩ := DataW.trod_int Try.underlying3 q3
      obtain ⟨n', e2, _, hw⟩ := DataW.trod_int Try.underlying3 q4
      simp only [List.cons.injEq, and_true] at e1 e2
      rw [e1] at q1
      rw [e2] at q2
      exact ⟨k, n', q1, q2, bounds_i64 hw⟩
  obtain ⟨a2, rfl, rfl, rfl, w2⟩ := open_int Try.underlying3 (hval 2 3 v2 rfl rfl) h2
  clear hA0 hval0
  refine (walk a0 a1 len1 cap1 a2 W w0 w1 w2).mono fun e W' ⟨he, bel⟩ => ?_
  subst he
  exact ⟨_, rfl, _, _, _, [], _, [], hW', trodAll_mk1 (shut_bool Try.underlying4 _), (trodAll_cons_mk (shut_int Try.underlying3 w0) (trodAll_cons_mk (Below.trod laidOut (by kernel_rfl) (of_decide_eq_true (by kernel_rfl)) k1 bel lt1) (trodAll_cons_mk (shut_int Try.underlying3 w2) trodAll_mk0))), rfl, bel.frame _, fun h => by cases h⟩

theorem over : Rows.poolPartsRow.holds Try.pinned (OpenSpec.ofChange Rows.poolPartsSpec) :=
  OpenClaim.holds_of_wide 4 Try.f4 rfl rfl rfl rfl rfl rfl rfl ⟨rfl, rfl, rfl, rfl, rfl⟩ rfl rfl rfl rfl rfl (by kernel_rfl) Try.func4 (by kernel_rfl)
    (of_decide_eq_true (by kernel_rfl)) (by unfold Func.isWrapper; first | (rw [if_pos (by decide +kernel)]; kernel_rfl) | (rw [if_neg (by decide +kernel)]; exact ⟨rfl, rfl⟩))
    (fun os started H enc _ => lifted os started H enc)

theorem proved : Rows.PoolPartsSaid := over
end Go.Proofs.Ytgpjmbhcfjafmaa.poolParts

namespace Go.Proofs.Ytgpjmbhcfjafmaa
theorem poolParts_holds : Rows.PoolPartsSaid := poolParts.proved
#print axioms poolParts_holds
end Go.Proofs.Ytgpjmbhcfjafmaa
