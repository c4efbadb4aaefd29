/- Any codes, of any bits, are packed as the document says, and unpacked again, or refused: PackRound answers true for every input. -/
import Derived.Test.YtggclllegbiokaaRows
import Derived.Test.YtggclllegbiokaaPkLists
import Derived.WalkKit
import Derived.ProofKit
import Derived.OpenShut
import Derived.ShutString
import Derived.ChangeOld
import Derived.Below
namespace Go.Proofs.Ytggclllegbiokaa.packRound
open Go.ChangeShapes Go.WideShapes Go.ChangeAt Go.RowKit
open Go.ChangeMaps (open_string shut_string)
set_option linter.unusedVariables false

theorem own : ownKnob Try.prog.godebug = none := by kernel_rfl
theorem laidOut : laidOutB Try.prog = true := by kernel_rfl

/-- WHAT THE WALK IS TOLD OF A SLICE OF INTEGERS THAT CAME IN: it is nil; or it leads to a row of 'cap' cells, the numbers 'zs' (the first 'len' are its elements, the rest its spare room), each fitting its kind. -/
def IsRow (k : IntKind) (w : World) (a : Option Addr) (len cap : Nat) (zs : List Int) : Prop :=
  (a = none ∧ len = 0 ∧ cap = 0 ∧ zs = []) ∨
  ∃ x, a = some x ∧ len ≤ cap ∧ cap ≤ maxLen ∧ zs.length = cap ∧ (∀ i, i < zs.length → w.cell? (x.add i) = some (.int k (zs.getD i 0))) ∧ ∀ n ∈ zs, (Lit.int k n).wf = true

theorem walk (a0 : Option Addr) (len0 cap0 : Nat) (z0 : List Int) (a1 : Int) (w : World) (w0 : IsRow .i64 w a0 len0 cap0 z0) (w1 : (Lit.int .i64 a1).wf = true) :
    Calls Try.prog 3 #[.slice a0 len0 cap0, .int .i64 a1] w fun e w' => e = .returned (.bool true) ∧ Below w.heap.size w w' := by
  obtain ⟨x, hx, LX, MX, CX, DX, FX⟩ := row_openI w0
  subst hx
  have HX : Hid (Lst .i64 w a0 x) := LX
  clear w0 w1 LX DX CX FX
  by_cases hm : 400 < x.length
  · go_enter Try.func3, Try.ntmps3
    go_wp2_with (go_at_call 8; refine (pkAwake_any _).mono ?_; rintro e wa ⟨rfl, hba⟩)
    go_ret
    exact ⟨rfl, hba⟩
  clear MX
  rcases ok_or a1 with hb | ⟨b, rfl, hb⟩
  · have H : Hid (NotOk a1) := hb
    clear hb
    go_enter Try.func3, Try.ntmps3
    go_wp2_with (first
      | (go_at_call 9; refine (pack_bits _ _ _ _ H.out _).mono ?_; rintro e w' ⟨rfl, hww⟩; cases hww.symm; clear hww)
      | (go_at_call 10; refine (refRight_bits _ _ _ _ H.out _).mono ?_; rintro e w' ⟨rfl, hww⟩; cases hww.symm; clear hww)
      | (go_at_call 8; refine (pkAwake_any _).mono ?_; rintro e wa ⟨rfl, hba⟩))
    go_ret
    exact ⟨rfl, hba⟩
  have H : Hid (Pk.Ok b) := hb
  have hb8 := ok_le hb
  by_cases h2 : 256 < x.length
  · clear hb
    go_enter Try.func3, Try.ntmps3
    go_wp2_with (first
      | (go_at_call 9; refine (pack_many _ _ _ _ H.out h2 _).mono ?_; rintro e w' ⟨rfl, hww⟩; cases hww.symm; clear hww)
      | (go_at_call 10; refine (refRight_many _ _ _ _ H.out h2 _).mono ?_; rintro e w' ⟨rfl, hww⟩; cases hww.symm; clear hww)
      | (go_at_call 8; refine (pkAwake_any _).mono ?_; rintro e wa ⟨rfl, hba⟩))
    go_ret
    exact ⟨rfl, hba⟩
  have hl : x.length ≤ 256 := by omega
  clear h2 hm
  cases hc : Pk.cds b x
  · have HC : Hid (Pk.cds b x = false) := hc
    have HR : Hid (Pk.right b x = 11) := Pk.right_no hc
    clear hb hc
    go_enter Try.func3, Try.ntmps3
    go_wp2_with (first
      | (go_at_call 9; refine (pack_range _ _ _ _ H.out hl _ HX.out HC.out).mono ?_; rintro e w' ⟨rfl, hww⟩; cases hww.symm; clear hww)
      | (go_at_call 10; refine (refRight_any _ _ _ _ H.out hl _ HX.out).mono ?_; rintro e w' ⟨rfl, hww⟩; cases hww.symm; clear hww; rw [HR.out])
      | (go_at_call 8; refine (pkAwake_any _).mono ?_; rintro e wa ⟨rfl, hba⟩))
    go_ret
    exact ⟨rfl, hba⟩
  · have HC : Hid (Pk.Cds b x) := Pk.cds_Cds hc
    have HR : Hid (Pk.right b x = 0) := Pk.right_yes hc
    have hz := Pk.size_le hb hl
    obtain ⟨z, ez⟩ : ∃ z, Pk.size b x.length = z := ⟨_, rfl⟩
    have EZ : Hid (Pk.size b x.length = z) := ez
    rw [ez] at hz
    have EL : Hid (z = (Pk.pack b x).length) := by show _ = _; rw [Pk.pack_length, ez]
    have EU : Hid (Pk.unpack b x.length (Pk.pack b x) = x) := Pk.unpack_pack hb HC.out
    clear hb hc ez
    go_enter Try.func3, Try.ntmps3
    go_wp2_with fail
    refine (pack_okz _ _ _ _ z x rfl H.out hl EZ.out _ HX.out HC.out).mono ?_
    rintro e u1 ⟨g1, rfl, P1, hB⟩
    have W1 : Hid (Below w.heap.size w u1) := hB
    have X1 : Hid (Lst .i64 u1 a0 x) := HX.out.keep hB
    have P1 : Hid (Lst .u64 u1 (some ⟨g1, 0, none⟩) (Pk.pack b x)) := P1
    clear hB HX
    go_wp2_with fail
    refine (refRight_any _ _ _ _ H.out hl _ X1.out).mono ?_
    rintro e w' ⟨rfl, hww⟩
    cases hww.symm
    clear hww
    rw [HR.out]
    go_wp2_with fail
    refine (unpack_okm _ _ _ _ _ _ EL.out H.out hl _ P1.out (Pk.pack_wds H.out HC.out) (Pk.pack_length b x) (Pk.stray_pack H.out HC.out)).mono ?_
    rintro e u2 ⟨g2, rfl, C2, hB⟩
    have W2 : Hid (Below w.heap.size w u2) := below_then W1.out hB
    have X2 : Hid (Lst .i64 u2 a0 x) := X1.out.keep hB
    have P2 : Hid (Lst .u64 u2 (some ⟨g1, 0, none⟩) (Pk.pack b x)) := P1.out.keep hB
    have C2 : Hid (Lst .i64 u2 (some ⟨g2, 0, none⟩) (Pk.unpack b x.length (Pk.pack b x))) := C2
    clear hB X1 P1 W1
    go_wp2_with fail
    refine (refPack_lst _ _ _ z x H.out hl EZ.out _ X2.out HC.out).mono ?_
    rintro e u3 ⟨a3, c3, rfl, R3, hB⟩
    have W3 : Hid (Below w.heap.size w u3) := below_then W2.out hB
    have X3 : Hid (Lst .i64 u3 a0 x) := X2.out.keep hB
    have P3 : Hid (Lst .u64 u3 (some ⟨g1, 0, none⟩) (Pk.pack b x)) := P2.out.keep hB
    have C3 : Hid (Lst .i64 u3 (some ⟨g2, 0, none⟩) (Pk.unpack b x.length (Pk.pack b x))) := C2.out.keep hB
    have R3 : Hid (Lst .u64 u3 a3 (Pk.pack b x)) := R3
    clear hB X2 P2 W2 C2
    go_wp2_with fail
    refine (refSame_anym _ _ _ _ _ _ _ _ _ EL.out EL.out P3.out R3.out (by rw [← EL.out]; omega) rfl).mono ?_
    rintro e u4 ⟨rfl, hB⟩
    have W4 : Hid (Below w.heap.size w u4) := below_then W3.out hB
    have X4 : Hid (Lst .i64 u4 a0 x) := X3.out.keep hB
    have C4 : Hid (Lst .i64 u4 (some ⟨g2, 0, none⟩) (Pk.unpack b x.length (Pk.pack b x))) := C3.out.keep hB
    clear hB X3 P3 W3 C3 R3
    go_wp2_with fail
    refine (words_yes _ _ H.out hl _).mono ?_
    rintro e w' ⟨rfl, hww⟩
    cases hww.symm
    clear hww
    rw [EZ.out]
    go_wp2_with fail
    refine (sameC_anym _ _ _ _ _ _ _ _ _ (Pk.unpack_length _ _ _).symm (Pk.unpack_length _ _ _).symm C4.out X4.out (by rw [Pk.unpack_length]; omega) EU.out).mono ?_
    rintro e u5 ⟨rfl, hB⟩
    have W5 : Hid (Below w.heap.size w u5) := below_then W4.out hB
    clear hB X4 C4 W4
    go_wp2_with (go_at_call 8; refine (pkAwake_any _).mono ?_; rintro e wa ⟨rfl, hba⟩)
    go_ret
    exact ⟨rfl, below_then W5.out hba⟩

set_option maxRecDepth 100000 in
theorem lifted (os : Os) (started : os.Started) (H : Type) (enc : TypeId × Value → H) :
    ReturnsInHanded {} Try.checked os 3 .any (Rows.packRoundSpec.pre6 enc Try.prog Try.f3 Rows.packRoundRow.domain false) (Rows.packRoundSpec.post enc Try.prog Try.f3 false true false false) := by
  refine returnsInHanded_of_change (C := Try.checked) own started (by kernel_rfl) Try.func3
    (ChangeSpec.witness6 (enc := enc) (C := Try.checked) false ⟨#[], #[.slice none 0 0, .int .i64 0], []⟩ 8 (by kernel_rfl) (by kernel_rfl) (by kernel_rfl) (by kernel_rfl)) ?_
  intro W base args ds gs before hval0 hW hcnd _
  have hval : ∀ (j : Nat) t v, Try.f3.params[j]? = some t → args[j]? = some v → Value.okWide Try.prog W .any base t v := hval0
  have hW' := hW
  obtain ⟨p, q, hA0, hV, rfl, hfz, hnd⟩ := hW
  have hA : DataW.TrodAll enc Try.prog W 0 (fun _ => true) true Try.f3.params.toList args.toList ds p := hA0
  rw [Try.params3] at hA hval
  obtain ⟨v0, vs0, d0, ds0, p0, q0, hargs, rfl, rfl, h0, r0⟩ := trodAll_cons hA
  obtain ⟨v1, vs1, d1, ds1, p1, q1, rfl, rfl, rfl, h1, r1⟩ := trodAll_cons r0
  obtain ⟨rfl, rfl, rfl⟩ := trodAll_nil r1
  obtain rfl : args = #[v0, v1] := by cases args; simp_all
  obtain ⟨rfl, rfl⟩ := trodVars_none hV
  obtain ⟨a0, len0, cap0, rfl⟩ := okWide_slice Try.underlying22 (hval 0 22 v0 rfl rfl)
  have k0 := h0
  have lt0 : ∀ x ∈ p0, x.block < W.heap.size := by obtain ⟨m, hm⟩ := k0; exact DataW.trod_lt m _ _ _ hm
  obtain ⟨z0, w0⟩ : ∃ zs, IsRow .i64 W a0 len0 cap0 zs := by
    obtain ⟨fuel, hf⟩ := h0
    rcases open_ints Try.underlying22 Try.underlying3 (by kernel_rfl) hf with ⟨hcs, _⟩ | ⟨x, l, c, zs, hcs, _, hl, hm, hz, _, hcell, hwz⟩
    · simp [Value.cells] at hcs
      obtain ⟨rfl, rfl, rfl⟩ := hcs
      exact ⟨[], .inl ⟨rfl, rfl, rfl, rfl⟩⟩
    · simp [Value.cells] at hcs
      obtain ⟨rfl, rfl, rfl⟩ := hcs
      exact ⟨zs, .inr ⟨_, rfl, hl, hm, by simpa using hz, hcell, hwz⟩⟩
  obtain ⟨a1, rfl, rfl, rfl, w1⟩ := open_int Try.underlying3 (hval 1 3 v1 rfl rfl) h1
  clear hA0 hval0
  refine (walk a0 len0 cap0 z0 a1 W w0 w1).mono fun e W' ⟨he, bel⟩ => ?_
  subst he
  exact ⟨_, rfl, _, _, _, [], _, [], hW', trodAll_mk1 (shut_bool Try.underlying4 _), (trodAll_cons_mk (Below.trod laidOut (by kernel_rfl) (of_decide_eq_true (by kernel_rfl)) k0 bel lt0) (trodAll_cons_mk (shut_int Try.underlying3 w1) trodAll_mk0)), rfl, bel.frame _, fun h => by cases h⟩

theorem over : Rows.packRoundRow.holds Try.pinned (OpenSpec.ofChange Rows.packRoundSpec) :=
  OpenClaim.holds_of_wide 3 Try.f3 rfl rfl rfl rfl rfl rfl rfl ⟨rfl, rfl, rfl, rfl, rfl⟩ rfl rfl rfl rfl rfl (by kernel_rfl) Try.func3 (by kernel_rfl)
    (of_decide_eq_true (by kernel_rfl)) (by unfold Func.isWrapper; first | (rw [if_pos (by decide +kernel)]; kernel_rfl) | (rw [if_neg (by decide +kernel)]; exact ⟨rfl, rfl⟩))
    (fun os started H enc _ => lifted os started H enc)

theorem proved : Rows.PackRoundSaid := over
end Go.Proofs.Ytggclllegbiokaa.packRound

namespace Go.Proofs.Ytggclllegbiokaa
theorem packRound_holds : Rows.PackRoundSaid := packRound.proved
#print axioms packRound_holds
end Go.Proofs.Ytggclllegbiokaa
