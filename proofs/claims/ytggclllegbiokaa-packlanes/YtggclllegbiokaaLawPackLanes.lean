/- Any code of any words is told as the document says; where there is none, 0: PackLanes answers true for every input. -/
import Derived.Test.YtggclllegbiokaaRows
import Derived.Test.YtggclllegbiokaaPkAwake
import Derived.WalkKit
import Derived.ProofKit
import Derived.OpenShut
import Derived.ShutString
import Derived.ChangeOld
import Derived.Below
namespace Go.Proofs.Ytggclllegbiokaa.packLanes
open Go.ChangeShapes Go.WideShapes Go.ChangeAt Go.RowKit
open Go.ChangeMaps (open_string shut_string)
set_option linter.unusedVariables false

theorem own : ownKnob Try.prog.godebug = none := by kernel_rfl
theorem laidOut : laidOutB Try.prog = true := by kernel_rfl

/-- WHAT THE WALK IS TOLD OF A SLICE OF INTEGERS THAT CAME IN: it is nil; or it leads to a row of 'cap' cells, the numbers 'zs' (the first 'len' are its elements, the rest its spare room), each fitting its kind. -/
def IsRow (k : IntKind) (w : World) (a : Option Addr) (len cap : Nat) (zs : List Int) : Prop :=
  (a = none ∧ len = 0 ∧ cap = 0 ∧ zs = []) ∨
  ∃ x, a = some x ∧ len ≤ cap ∧ cap ≤ maxLen ∧ zs.length = cap ∧ (∀ i, i < zs.length → w.cell? (x.add i) = some (.int k (zs.getD i 0))) ∧ ∀ n ∈ zs, (Lit.int k n).wf = true

theorem walk (a0 : Option Addr) (len0 cap0 : Nat) (z0 : List Int) (a1 : Int) (a2 : Int) (w : World) (w0 : IsRow .u64 w a0 len0 cap0 z0) (w1 : (Lit.int .i64 a1).wf = true) (w2 : (Lit.int .i64 a2).wf = true) :
    Calls Try.prog 5 #[.slice a0 len0 cap0, .int .i64 a1, .int .i64 a2] w fun e w' => e = .returned (.bool true) ∧ Below w.heap.size w w' := by
  obtain ⟨x, hx, LX, VX, MX, CX, DX, FX⟩ := row_openU w0
  subst hx
  have bi := bounds_i64 w1
  have HX : Hid (Lst .u64 w a0 x) := LX
  have HV : Hid (Pk.Wds x) := VX
  clear w0 w1 w2 LX VX MX DX CX FX
  by_cases hm : 50 < x.length
  · go_enter Try.func5, Try.ntmps5
    go_wp2_with (go_at_call 8; refine (pkAwake_any _).mono ?_; rintro e wa ⟨rfl, hba⟩)
    go_ret
    exact ⟨rfl, hba⟩
  rcases ok_or a2 with hb | ⟨b, rfl, hb⟩
  · have H : Hid (NotOk a2) := hb
    clear hb
    go_enter Try.func5, Try.ntmps5
    go_wp2_with (first
      | (go_at_call 19; refine (lane_bits _ _ _ _ _ H.out _).mono ?_; rintro e w' ⟨rfl, hww⟩; cases hww.symm; clear hww)
      | (go_at_call 16; refine (refBits_no _ H.out _).mono ?_; rintro e w' ⟨rfl, hww⟩; cases hww.symm; clear hww)
      | (go_at_call 8; refine (pkAwake_any _).mono ?_; rintro e wa ⟨rfl, hba⟩))
    go_ret
    exact ⟨rfl, hba⟩
  have H : Hid (Pk.Ok b) := hb
  have hb8 := ok_le hb
  by_cases hi0 : a1 < 0
  · clear hb
    go_enter Try.func5, Try.ntmps5
    go_wp2_with (first
      | (go_at_call 19; refine (lane_low _ _ _ _ _ H.out hi0 _).mono ?_; rintro e w' ⟨rfl, hww⟩; cases hww.symm; clear hww)
      | (go_at_call 16; refine (refBits_yes _ H.out _).mono ?_; rintro e w' ⟨rfl, hww⟩; cases hww.symm; clear hww)
      | (go_at_call 8; refine (pkAwake_any _).mono ?_; rintro e wa ⟨rfl, hba⟩))
    go_ret
    exact ⟨rfl, hba⟩
  obtain ⟨i, rfl⟩ := Int.eq_ofNat_of_zero_le (show 0 ≤ a1 by omega)
  have hi : i ≤ 9223372036854775807 := by omega
  have hw := Pk.word_room (i := i) (n := x.length) hb
  have hq := Pk.per_le hb
  obtain ⟨q, eq⟩ : ∃ q, 64 / b = q := ⟨_, rfl⟩
  rw [eq] at hw hq
  have q1 : (64 : Int) / (b : Int) = (q : Int) := by rw [← eq, Int.natCast_ediv]; rfl
  have q2 : (64 : Int).tdiv (b : Int) = (q : Int) := by rw [Int.tdiv_eq_ediv_of_nonneg (by omega)]; exact q1
  obtain ⟨r, er⟩ : ∃ r, q * x.length = r := ⟨_, rfl⟩
  rw [er] at hw
  have hr : r ≤ 32 * 50 := by rw [← er]; exact Nat.mul_le_mul hq (by omega)
  have q3 : (q : Int) * (x.length : Int) = (r : Int) := by rw [← er]; exact (Int.natCast_mul _ _).symm
  clear hb eq er bi hi0
  by_cases hf : i < r
  · have hwd : Hid (Pk.word b i < x.length) := hw.2 hf
    clear hw
    obtain ⟨y, ey⟩ : ∃ y, Pk.lane b x i = y := ⟨_, rfl⟩
    have EY : Hid (Pk.lane b x i = y) := ey
    clear ey
    go_enter Try.func5, Try.ntmps5
    go_wp2_with fail
    refine (lane_ok _ _ _ _ x H.out hi hwd.out _ HX.out HV.out).mono ?_
    rintro e w' ⟨rfl, n, hww⟩
    cases hww.symm
    clear hww
    rw [EY.out]
    go_wp2_with (first
      | (go_at_call 16; refine (refBits_yes _ H.out _).mono ?_; rintro e w' ⟨rfl, hww⟩; cases hww.symm; clear hww)
      | (go_at_call 20; refine (refLane_any _ _ _ _ x H.out (by omega) hwd.out _ (HX.out.draws n) HV.out).mono ?_; rintro e w' ⟨rfl, n2, hww⟩; cases hww.symm; clear hww; rw [EY.out])
      | (go_at_call 8; refine (pkAwake_any _).mono ?_; rintro e wa ⟨rfl, hba⟩))
    go_ret
    exact ⟨rfl, below_then (below_drewN (Below.refl _ _) (n + n2)) hba⟩
  · have hwd : Hid (x.length ≤ Pk.word b i) := by
      show _ ≤ _
      omega
    clear hw
    go_enter Try.func5, Try.ntmps5
    go_wp2_with (first
      | (go_at_call 19; refine (lane_far _ _ _ _ _ H.out hi hwd.out _).mono ?_; rintro e w' ⟨rfl, n, hww⟩; cases hww.symm; clear hww)
      | (go_at_call 16; refine (refBits_yes _ H.out _).mono ?_; rintro e w' ⟨rfl, hww⟩; cases hww.symm; clear hww)
      | (go_at_call 8; refine (pkAwake_any _).mono ?_; rintro e wa ⟨rfl, hba⟩))
    go_ret
    exact ⟨rfl, below_then (below_drewN (Below.refl _ _) n) hba⟩

set_option maxRecDepth 100000 in
theorem lifted (os : Os) (started : os.Started) (H : Type) (enc : TypeId × Value → H) :
    ReturnsInHanded {} Try.checked os 5 .any (Rows.packLanesSpec.pre6 enc Try.prog Try.f5 Rows.packLanesRow.domain false) (Rows.packLanesSpec.post enc Try.prog Try.f5 false true false false) := by
  refine returnsInHanded_of_change (C := Try.checked) own started (by kernel_rfl) Try.func5
    (ChangeSpec.witness6 (enc := enc) (C := Try.checked) false ⟨#[], #[.slice none 0 0, .int .i64 0, .int .i64 0], []⟩ 8 (by kernel_rfl) (by kernel_rfl) (by kernel_rfl) (by kernel_rfl)) ?_
  intro W base args ds gs before hval0 hW hcnd _
  have hval : ∀ (j : Nat) t v, Try.f5.params[j]? = some t → args[j]? = some v → Value.okWide Try.prog W .any base t v := hval0
  have hW' := hW
  obtain ⟨p, q, hA0, hV, rfl, hfz, hnd⟩ := hW
  have hA : DataW.TrodAll enc Try.prog W 0 (fun _ => true) true Try.f5.params.toList args.toList ds p := hA0
  rw [Try.params5] at hA hval
  obtain ⟨v0, vs0, d0, ds0, p0, q0, hargs, rfl, rfl, h0, r0⟩ := trodAll_cons hA
  obtain ⟨v1, vs1, d1, ds1, p1, q1, rfl, rfl, rfl, h1, r1⟩ := trodAll_cons r0
  obtain ⟨v2, vs2, d2, ds2, p2, q2, rfl, rfl, rfl, h2, r2⟩ := trodAll_cons r1
  obtain ⟨rfl, rfl, rfl⟩ := trodAll_nil r2
  obtain rfl : args = #[v0, v1, v2] := by cases args; simp_all
  obtain ⟨rfl, rfl⟩ := trodVars_none hV
  obtain ⟨a0, len0, cap0, rfl⟩ := okWide_slice Try.underlying24 (hval 0 24 v0 rfl rfl)
  have k0 := h0
  have lt0 : ∀ x ∈ p0, x.block < W.heap.size := by obtain ⟨m, hm⟩ := k0; exact DataW.trod_lt m _ _ _ hm
  obtain ⟨z0, w0⟩ : ∃ zs, IsRow .u64 W a0 len0 cap0 zs := by
    obtain ⟨fuel, hf⟩ := h0
    rcases open_ints Try.underlying24 Try.underlying41 (by kernel_rfl) hf with ⟨hcs, _⟩ | ⟨x, l, c, zs, hcs, _, hl, hm, hz, _, hcell, hwz⟩
    · simp [Value.cells] at hcs
      obtain ⟨rfl, rfl, rfl⟩ := hcs
      exact ⟨[], .inl ⟨rfl, rfl, rfl, rfl⟩⟩
    · simp [Value.cells] at hcs
      obtain ⟨rfl, rfl, rfl⟩ := hcs
      exact ⟨zs, .inr ⟨_, rfl, hl, hm, by simpa using hz, hcell, hwz⟩⟩
  obtain ⟨a1, rfl, rfl, rfl, w1⟩ := open_int Try.underlying3 (hval 1 3 v1 rfl rfl) h1
  obtain ⟨a2, rfl, rfl, rfl, w2⟩ := open_int Try.underlying3 (hval 2 3 v2 rfl rfl) h2
  clear hA0 hval0
  refine (walk a0 len0 cap0 z0 a1 a2 W w0 w1 w2).mono fun e W' ⟨he, bel⟩ => ?_
  subst he
  exact ⟨_, rfl, _, _, _, [], _, [], hW', trodAll_mk1 (shut_bool Try.underlying4 _), (trodAll_cons_mk (Below.trod laidOut (by kernel_rfl) (of_decide_eq_true (by kernel_rfl)) k0 bel lt0) (trodAll_cons_mk (shut_int Try.underlying3 w1) (trodAll_cons_mk (shut_int Try.underlying3 w2) trodAll_mk0))), rfl, bel.frame _, fun h => by cases h⟩

theorem over : Rows.packLanesRow.holds Try.pinned (OpenSpec.ofChange Rows.packLanesSpec) :=
  OpenClaim.holds_of_wide 5 Try.f5 rfl rfl rfl rfl rfl rfl rfl ⟨rfl, rfl, rfl, rfl, rfl⟩ rfl rfl rfl rfl rfl (by kernel_rfl) Try.func5 (by kernel_rfl)
    (of_decide_eq_true (by kernel_rfl)) (by unfold Func.isWrapper; first | (rw [if_pos (by decide +kernel)]; kernel_rfl) | (rw [if_neg (by decide +kernel)]; exact ⟨rfl, rfl⟩))
    (fun os started H enc _ => lifted os started H enc)

theorem proved : Rows.PackLanesSaid := over
end Go.Proofs.Ytggclllegbiokaa.packLanes

namespace Go.Proofs.Ytggclllegbiokaa
theorem packLanes_holds : Rows.PackLanesSaid := packLanes.proved
#print axioms packLanes_holds
end Go.Proofs.Ytggclllegbiokaa
