/- A pool takes as many pages as it has slots, and one more for each that is free again, into the least one; nothing that lay before is changed. -/
import Derived.Test.YtgpjmbhcfjafmaaRows
import Derived.Test.YtgpjmbhcfjafmaaPoB
import Derived.WalkKit
import Derived.ProofKit
import Derived.OpenShut
import Derived.ShutString
import Derived.ChangeOld
import Derived.Below
namespace Go.Proofs.Ytgpjmbhcfjafmaa.poolFills
open Go.ChangeShapes Go.WideShapes Go.ChangeAt Go.RowKit
open Go.ChangeMaps (open_string shut_string)
set_option linter.unusedVariables false

theorem own : ownKnob Try.prog.godebug = none := by kernel_rfl
theorem laidOut : laidOutB Try.prog = true := by kernel_rfl

/-- WHAT THE WALK IS TOLD OF A SLICE OF INTEGERS THAT CAME IN: it is nil; or it leads to a row of 'cap' cells, the numbers 'zs' (the first 'len' are its elements, the rest its spare room), each fitting its kind. -/
def IsRow (k : IntKind) (w : World) (a : Option Addr) (len cap : Nat) (zs : List Int) : Prop :=
  (a = none ∧ len = 0 ∧ cap = 0 ∧ zs = []) ∨
  ∃ x, a = some x ∧ len ≤ cap ∧ cap ≤ maxLen ∧ zs.length = cap ∧ (∀ i, i < zs.length → w.cell? (x.add i) = some (.int k (zs.getD i 0))) ∧ ∀ n ∈ zs, (Lit.int k n).wf = true

set_option maxRecDepth 100000 in
set_option maxHeartbeats 3200000 in
theorem walk (a0 : Int) (a1 : Option Addr) (len1 cap1 : Nat) (z1 : List Int) (w : World) (w0 : (Lit.int .i64 a0).wf = true) (w1 : IsRow .i64 w a1 len1 cap1 z1) :
    Calls Try.prog 5 #[.int .i64 a0, .slice a1 len1 cap1] w fun e w' => e = .returned (.bool true) ∧ Below w.heap.size w w' := by
  -- depth
  obtain ⟨ds, hds, LD, ML⟩ := row_openP w1
  have HD : Hid (Lst .i64 w a1 ds) := LD
  have hz := bounds_i64 w0
  unfold maxLen at ML
  clear w0 w1 LD
  subst hds
  by_cases hm : a0 < 0 ∨ 60 < a0 ∨ 40 < ds.length
  · by_cases q1 : a0 < 0 <;> by_cases q2 : 60 < a0 <;> by_cases q3 : 40 < ds.length
    all_goals first
      | (exfalso; omega)
      | (go_enter Try.func5, Try.ntmps5
         go_wp2_with (go_at_call 7; refine (poAwake_any _).mono ?_; rintro e wa ⟨rfl, hba⟩)
         go_ret
         exact ⟨rfl, hba⟩)
  obtain ⟨n, rfl⟩ : ∃ n : Nat, a0 = n := ⟨a0.toNat, by omega⟩
  have hn : n ≤ 60 := by omega
  have hl1 : ds.length ≤ 40 := by omega
  have g1 : decide ((40 : Int) < (ds.length : Int)) = false := decide_eq_false (by omega)
  have g3 : decide ((60 : Int) < (n : Int)) = false := decide_eq_false (by omega)
  clear hm hz ML
  go_enter Try.func5, Try.ntmps5
  go_wp2_with fail
  refine (newPool_ok n (by omega) _).mono ?_
  rintro e w1 ⟨g, b, rfl, hp, hg, hb, hbel⟩
  have G1 : w.heap.size ≤ g ∧ w.heap.size ≤ b := ⟨hg, hb⟩
  have P1 : Hid (PoolAt w1 g b n (Po.zeros n) (Po.zeros n)) := hp
  have B1 : Hid (Below w.heap.size w w1) := hbel
  clear hp hg hb hbel
  go_wp2_with fail
  go_loopw [40] (fun i wr => ∃ (j : Nat) (R M : List Int), j ≤ n ∧ i = .int .i64 j ∧ Hid (PoolAt wr g b n R M) ∧ Hid ((∀ t, t < j → Ls.nth R t = 1) ∧ ∀ t, j ≤ t → Ls.nth R t = 0) ∧ Hid (Below w.heap.size w wr)) (fun i _ => n - (intOf i).toNat)
  case atStart => exact ⟨0, _, _, Nat.zero_le _, rfl, P1.out, ⟨fun t ht => by omega, fun t _ => Po.nth_zeros _ _⟩, B1.out⟩
  case round =>
    clear P1 B1
    obtain ⟨j, R, M, hj, rfl, PR, NR, BR⟩ := hrel
    obtain ⟨lg, lb⟩ := PR.out.lt
    by_cases hlt : j < n
    · go_wp2_with fail
      refine (made_any j _).mono ?_
      rintro e w2 ⟨q, rfl, hq, hlt, hbel⟩
      have Q2 : Hid (PgM w2 q (Po.mk j) ∧ ¬ q = g ∧ ¬ q = b) := ⟨hq, by omega, by omega⟩
      have P2 : Hid (PoolAt w2 g b n R M) := PR.out.keep hbel
      have B2 : Hid (Below w.heap.size w w2) := below_then BR.out hbel
      clear hq hlt hbel PR BR
      go_wp2_with fail
      refine (put_ok g b n j q (Po.mk j) R M w2 P2.out (by omega) (NR.out.2 j (Nat.le_refl _)) (fun i hi => by have := NR.out.1 i hi; omega) Q2.out.1 Q2.out.2.1 Q2.out.2.2).mono ?_
      rintro e w3 ⟨rfl, hp, hbt⟩
      have P3 : Hid (PoolAt w3 g b n (R.set j 1) (M.set j (Po.mk j))) := hp
      have B3 : Hid (Below w.heap.size w w3) := B2.out.trans (hbt.below G1.1 G1.2)
      have Z0 : Hid (j < R.length) := by show j < R.length; rw [P2.out.len.1]; omega
      clear hp hbt P2 B2 Q2
      go_wp2
      go_roundw
      case rel => exact ⟨j + 1, _, _, by omega, by go_num, P3.out, ⟨fun t ht => by rw [Po.nth_set Z0.out]; split; rfl; exact NR.out.1 t (by omega), fun t ht => by rw [Po.nth_set Z0.out, if_neg (by omega)]; exact NR.out.2 t (by omega)⟩, B3.out⟩
      case measure => simp [intOf]; omega
    · have e : j = n := by omega
      subst e
      clear hlt hj
      go_wp2_with fail
      go_loopw [60] (fun i wr => ∃ (k : Nat) (R M : List Int), k ≤ ds.length ∧ i = .int .i64 k ∧ Hid (PoolAt wr g b j R M) ∧ Hid (∀ t, t < j → Ls.nth R t = 1) ∧ Hid (Below w.heap.size w wr)) (fun i _ => ds.length - (intOf i).toNat)
      case atStart => exact ⟨0, _, _, Nat.zero_le _, rfl, PR.out, NR.out.1, BR.out⟩
      case round =>
        clear PR NR BR R M
        obtain ⟨k, R, M, hk, rfl, PR, NR, BR⟩ := hrel
        have LR : Hid (R.length = j) := PR.out.len.1
        have FF : Hid (∀ i, i < R.length → ¬ Ls.nth R i = 0) := fun i hi => by have := NR.out i (by rw [← LR.out]; exact hi); omega
        by_cases hlt : k < ds.length
        · obtain ⟨b1, o1, rfl, hg⟩ := (HD.out.keep BR.out).get hlt
          have s0 := hg k hlt
          obtain ⟨d, ed⟩ : ∃ d, Ls.nth ds k = d := ⟨_, rfl⟩
          rw [ed] at s0
          clear hg ed
          go_wp2_with fail
          clear s0
          refine (made_any 1 _).mono ?_
          rintro e w2 ⟨q, rfl, _, _, hbel⟩
          have P2 : Hid (PoolAt w2 g b j R M) := PR.out.keep hbel
          have B2 : Hid (Below w.heap.size w w2) := below_then BR.out hbel
          clear hbel PR BR
          go_wp2_with fail
          refine (put_full g b j _ R M _ P2.out FF.out).mono ?_
          rintro e w' ⟨rfl, hww⟩
          cases hww.symm
          clear hww
          by_cases d0 : d < 0
          · go_wp2
            go_roundw
            case rel => exact ⟨k + 1, _, _, by omega, by go_num, P2.out, NR.out, B2.out⟩
            case measure => simp [intOf]; omega
          by_cases d1 : (j : Int) ≤ d
          · have z0 : decide (d < 0) = false := decide_eq_false d0
            have z1 : decide ((j : Int) ≤ d) = true := decide_eq_true d1
            go_wp2
            go_roundw
            case rel => exact ⟨k + 1, _, _, by omega, by go_num, P2.out, NR.out, B2.out⟩
            case measure => simp [intOf]; omega
          obtain ⟨d, rfl⟩ : ∃ t : Nat, d = t := ⟨d.toNat, by omega⟩
          have hd : d < j := by omega
          have z1 : decide ((j : Int) ≤ (d : Int)) = false := decide_eq_false d1
          clear d0 d1
          go_wp2_with fail
          refine (drop_last g b j d R M _ P2.out hd (NR.out d hd)).mono ?_
          rintro e w3 ⟨rfl, hp, hbt⟩
          have P3 : Hid (PoolAt w3 g b j (R.set d 0) M) := hp
          have B3 : Hid (Below w.heap.size w w3) := B2.out.trans (hbt.below G1.1 G1.2)
          have Z0 : Hid (d < R.length) := by show d < R.length; rw [LR.out]; exact hd
          clear hp hbt P2 B2
          go_wp2_with fail
          refine (free_any g b j 1 (R.set d 0) M _ P3.out (Po.cnt_one Z0.out (by rw [LR.out]; exact NR.out))).mono ?_
          rintro e w' ⟨rfl, hww⟩
          cases hww.symm
          clear hww
          go_wp2_with fail
          refine (made_any 1 _).mono ?_
          rintro e w4 ⟨q, rfl, hq, hge, hbel⟩
          have hs3 := P3.out.lt
          have Q4 : Hid (PgM w4 q (Po.mk 1) ∧ ¬ q = g ∧ ¬ q = b) := ⟨hq, by omega, by omega⟩
          have P4 : Hid (PoolAt w4 g b j (R.set d 0) M) := P3.out.keep hbel
          have B4 : Hid (Below w.heap.size w w4) := below_then B3.out hbel
          clear hq hge hbel P3 B3 hs3
          go_wp2_with fail
          refine (put_ok g b j d q (Po.mk 1) (R.set d 0) M _ P4.out hd (by rw [Po.nth_set Z0.out, if_pos rfl]) (fun i hi => by rw [Po.nth_set Z0.out, if_neg (by omega)]; have := NR.out i (by omega); omega) Q4.out.1 Q4.out.2.1 Q4.out.2.2).mono ?_
          rintro e w5 ⟨rfl, hp, hbt⟩
          have P5 : Hid (PoolAt w5 g b j (R.set d 1) (M.set d (Po.mk 1))) := by rw [Po.set_set] at hp; exact hp
          have B5 : Hid (Below w.heap.size w w5) := B4.out.trans (hbt.below G1.1 G1.2)
          clear hp hbt P4 B4 Q4
          go_wp2
          go_roundw
          case rel => exact ⟨k + 1, _, _, by omega, by go_num, P5.out, (fun t ht => by rw [Po.nth_set Z0.out]; split; rfl; exact NR.out t ht), B5.out⟩
          case measure => simp [intOf]; omega
        · have US : Hid ((Po.used R).length = j) := by
            have h1 := Po.cnt_used PR.out.nums.2.2.2.2
            have h2 := Po.cnt_zero FF.out
            have h3 := LR.out
            show _ = _
            omega
          go_wp2_with fail
          refine (free_any g b j 0 R M _ PR.out (Po.cnt_zero FF.out)).mono ?_
          rintro e w' ⟨rfl, hww⟩
          cases hww.symm
          clear hww
          go_wp2_with fail
          refine (used_any g b j j R M _ PR.out US.out).mono ?_
          rintro e wu ⟨ua, uc, rfl, _, _, hbel⟩
          have BU : Hid (Below w.heap.size w wu) := below_then BR.out hbel
          clear hbel
          go_wp2_with (go_at_call 7; refine (poAwake_any _).mono ?_; rintro e wa ⟨rfl, hba⟩)
          go_ret
          exact ⟨rfl, below_then BU.out hba⟩

set_option maxRecDepth 100000 in
theorem lifted (os : Os) (started : os.Started) (H : Type) (enc : TypeId × Value → H) :
    ReturnsInHanded {} Try.checked os 5 .any (Rows.poolFillsSpec.pre6 enc Try.prog Try.f5 Rows.poolFillsRow.domain false) (Rows.poolFillsSpec.post enc Try.prog Try.f5 false true false false) := by
  refine returnsInHanded_of_change (C := Try.checked) own started (by kernel_rfl) Try.func5
    (ChangeSpec.witness6 (enc := enc) (C := Try.checked) false ⟨#[], #[.int .i64 0, .slice none 0 0], []⟩ 8 (by kernel_rfl) (by kernel_rfl) (by kernel_rfl) (by kernel_rfl)) ?_
  intro W base args ds gs before hval0 hW hcnd _
  have hval : ∀ (j : Nat) t v, Try.f5.params[j]? = some t → args[j]? = some v → Value.okWide Try.prog W .any base t v := hval0
  have hW' := hW
  obtain ⟨p, q, hA0, hV, rfl, hfz, hnd⟩ := hW
  have hA : DataW.TrodAll enc Try.prog W 0 (fun _ => true) true Try.f5.params.toList args.toList ds p := hA0
  rw [Try.params5] at hA hval
  obtain ⟨v0, vs0, d0, ds0, p0, q0, hargs, rfl, rfl, h0, r0⟩ := trodAll_cons hA
  obtain ⟨v1, vs1, d1, ds1, p1, q1, rfl, rfl, rfl, h1, r1⟩ := trodAll_cons r0
  obtain ⟨rfl, rfl, rfl⟩ := trodAll_nil r1
  obtain rfl : args = #[v0, v1] := by cases args; simp_all
  obtain ⟨rfl, rfl⟩ := trodVars_none hV
  obtain ⟨a0, rfl, rfl, rfl, w0⟩ := open_int Try.underlying3 (hval 0 3 v0 rfl rfl) h0
  obtain ⟨a1, len1, cap1, rfl⟩ := okWide_slice Try.underlying28 (hval 1 28 v1 rfl rfl)
  have k1 := h1
  have lt1 : ∀ x ∈ p1, x.block < W.heap.size := by obtain ⟨m, hm⟩ := k1; exact DataW.trod_lt m _ _ _ hm
  obtain ⟨z1, w1⟩ : ∃ zs, IsRow .i64 W a1 len1 cap1 zs := by
    obtain ⟨fuel, hf⟩ := h1
    rcases open_ints Try.underlying28 Try.underlying3 (by kernel_rfl) hf with ⟨hcs, _⟩ | ⟨x, l, c, zs, hcs, _, hl, hm, hz, _, hcell, hwz⟩
    · simp [Value.cells] at hcs
      obtain ⟨rfl, rfl, rfl⟩ := hcs
      exact ⟨[], .inl ⟨rfl, rfl, rfl, rfl⟩⟩
    · simp [Value.cells] at hcs
      obtain ⟨rfl, rfl, rfl⟩ := hcs
      exact ⟨zs, .inr ⟨_, rfl, hl, hm, by simpa using hz, hcell, hwz⟩⟩
  clear hA0 hval0
  refine (walk a0 a1 len1 cap1 z1 W w0 w1).mono fun e W' ⟨he, bel⟩ => ?_
  subst he
  exact ⟨_, rfl, _, _, _, [], _, [], hW', trodAll_mk1 (shut_bool Try.underlying4 _), (trodAll_cons_mk (shut_int Try.underlying3 w0) (trodAll_cons_mk (Below.trod laidOut (by kernel_rfl) (of_decide_eq_true (by kernel_rfl)) k1 bel lt1) trodAll_mk0)), rfl, bel.frame _, fun h => by cases h⟩

theorem over : Rows.poolFillsRow.holds Try.pinned (OpenSpec.ofChange Rows.poolFillsSpec) :=
  OpenClaim.holds_of_wide 5 Try.f5 rfl rfl rfl rfl rfl rfl rfl ⟨rfl, rfl, rfl, rfl, rfl⟩ rfl rfl rfl rfl rfl (by kernel_rfl) Try.func5 (by kernel_rfl)
    (of_decide_eq_true (by kernel_rfl)) (by unfold Func.isWrapper; first | (rw [if_pos (by decide +kernel)]; kernel_rfl) | (rw [if_neg (by decide +kernel)]; exact ⟨rfl, rfl⟩))
    (fun os started H enc _ => lifted os started H enc)

theorem proved : Rows.PoolFillsSaid := over
end Go.Proofs.Ytgpjmbhcfjafmaa.poolFills

namespace Go.Proofs.Ytgpjmbhcfjafmaa
theorem poolFills_holds : Rows.PoolFillsSaid := poolFills.proved
#print axioms poolFills_holds
end Go.Proofs.Ytgpjmbhcfjafmaa
