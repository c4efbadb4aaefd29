/- Any words are unpacked as the document says, and packed again into just these, or refused: PackBack answers true for every input. -/
import Derived.Test.YtggclllegbiokaaRows
import Derived.Test.YtggclllegbiokaaPkLists
import Derived.WalkKit
import Derived.ProofKit
import Derived.OpenShut
import Derived.ShutString
import Derived.ChangeOld
import Derived.Below
namespace Go.Proofs.Ytggclllegbiokaa.packBack
open Go.ChangeShapes Go.WideShapes Go.ChangeAt Go.RowKit
open Go.ChangeMaps (open_string shut_string)
set_option linter.unusedVariables false

theorem own : ownKnob Try.prog.godebug = none := by kernel_rfl
theorem laidOut : laidOutB Try.prog = true := by kernel_rfl

/-- WHAT THE WALK IS TOLD OF A SLICE OF INTEGERS THAT CAME IN: it is nil; or it leads to a row of 'cap' cells, the numbers 'zs' (the first 'len' are its elements, the rest its spare room), each fitting its kind. -/
def IsRow (k : IntKind) (w : World) (a : Option Addr) (len cap : Nat) (zs : List Int) : Prop :=
  (a = none ∧ len = 0 ∧ cap = 0 ∧ zs = []) ∨
  ∃ x, a = some x ∧ len ≤ cap ∧ cap ≤ maxLen ∧ zs.length = cap ∧ (∀ i, i < zs.length → w.cell? (x.add i) = some (.int k (zs.getD i 0))) ∧ ∀ n ∈ zs, (Lit.int k n).wf = true

theorem walk (a0 : Option Addr) (len0 cap0 : Nat) (z0 : List Int) (a1 : Int) (a2 : Int) (w : World) (w0 : IsRow .u64 w a0 len0 cap0 z0) (w1 : (Lit.int .i64 a1).wf = true) (w2 : (Lit.int .i64 a2).wf = true) :
    Calls Try.prog 4 #[.slice a0 len0 cap0, .int .i64 a1, .int .i64 a2] w fun e w' => e = .returned (.bool true) ∧ Below w.heap.size w w' := by
  obtain ⟨x, hx, LX, VX, MX, CX, DX, FX⟩ := row_openU w0
  subst hx
  have HX : Hid (Lst .u64 w a0 x) := LX
  have HV : Hid (Pk.Wds x) := VX
  clear w0 w1 w2 LX VX DX CX FX
  by_cases hm : 50 < x.length
  · go_enter Try.func4, Try.ntmps4
    go_wp2_with (go_at_call 8; refine (pkAwake_any _).mono ?_; rintro e wa ⟨rfl, hba⟩)
    go_ret
    exact ⟨rfl, hba⟩
  clear MX
  rcases ok_or a2 with hb | ⟨b, rfl, hb⟩
  · have H : Hid (NotOk a2) := hb
    clear hb
    go_enter Try.func4, Try.ntmps4
    go_wp2_with (first
      | (go_at_call 11; refine (unpack_bits _ _ _ _ _ H.out _).mono ?_; rintro e w' ⟨rfl, hww⟩; cases hww.symm; clear hww)
      | (go_at_call 16; refine (refBits_no _ H.out _).mono ?_; rintro e w' ⟨rfl, hww⟩; cases hww.symm; clear hww)
      | (go_at_call 8; refine (pkAwake_any _).mono ?_; rintro e wa ⟨rfl, hba⟩))
    go_ret
    exact ⟨rfl, hba⟩
  have H : Hid (Pk.Ok b) := hb
  have hb8 := ok_le hb
  by_cases hn0 : a1 < 0
  · have HN : Hid (a1 < 0 ∨ 256 < a1) := Or.inl hn0
    clear hb
    go_enter Try.func4, Try.ntmps4
    go_wp2_with (first
      | (go_at_call 11; refine (unpack_many _ _ _ _ _ H.out HN.out _).mono ?_; rintro e w' ⟨rfl, hww⟩; cases hww.symm; clear hww)
      | (go_at_call 16; refine (refBits_yes _ H.out _).mono ?_; rintro e w' ⟨rfl, hww⟩; cases hww.symm; clear hww)
      | (go_at_call 8; refine (pkAwake_any _).mono ?_; rintro e wa ⟨rfl, hba⟩))
    go_ret
    exact ⟨rfl, hba⟩
  by_cases hn1 : 256 < a1
  · have HN : Hid (a1 < 0 ∨ 256 < a1) := Or.inr hn1
    clear hb
    go_enter Try.func4, Try.ntmps4
    go_wp2_with (first
      | (go_at_call 11; refine (unpack_many _ _ _ _ _ H.out HN.out _).mono ?_; rintro e w' ⟨rfl, hww⟩; cases hww.symm; clear hww)
      | (go_at_call 16; refine (refBits_yes _ H.out _).mono ?_; rintro e w' ⟨rfl, hww⟩; cases hww.symm; clear hww)
      | (go_at_call 8; refine (pkAwake_any _).mono ?_; rintro e wa ⟨rfl, hba⟩))
    go_ret
    exact ⟨rfl, hba⟩
  obtain ⟨n, rfl⟩ := Int.eq_ofNat_of_zero_le (show 0 ≤ a1 by omega)
  have hn : n ≤ 256 := by omega
  have g0 : decide ((n : Int) < 0) = false := decide_eq_false (by omega)
  have g1 : decide (256 < (n : Int)) = false := decide_eq_false (by omega)
  clear hn0 hn1
  obtain ⟨z, ez⟩ : ∃ z, Pk.size b n = z := ⟨_, rfl⟩
  have EZ : Hid (Pk.size b n = z) := ez
  by_cases hz : x.length = z
  · have HL : Hid (x.length = Pk.size b n) := by show _ = _; omega
    have EZ2 : Hid (Pk.size b n = x.length) := HL.out.symm
    clear hz EZ ez z
    cases hs : Pk.stray b n x
    · have HS : Hid (Pk.stray b n x = false) := hs
      have EP : Hid (Pk.pack b (Pk.unpack b n x) = x) := Pk.pack_unpack hb HV.out HL.out hs
      have EQ : Hid (Pk.size b (Pk.unpack b n x).length = x.length) := by show _ = _; rw [Pk.unpack_length, HL.out]
      clear hs hb
      go_enter Try.func4, Try.ntmps4
      go_wp2_with fail
      refine (unpack_okm _ _ _ _ _ x rfl H.out hn _ HX.out HV.out HL.out HS.out).mono ?_
      rintro e u1 ⟨g, rfl, C1, hB⟩
      have W1 : Hid (Below w.heap.size w u1) := hB
      have X1 : Hid (Lst .u64 u1 a0 x) := HX.out.keep hB
      have C1 : Hid (Lst .i64 u1 (some ⟨g, 0, none⟩) (Pk.unpack b n x)) := C1
      clear hB HX
      go_wp2_with (first
        | (go_at_call 16; refine (refBits_yes _ H.out _).mono ?_; rintro e w' ⟨rfl, hww⟩; cases hww.symm; clear hww)
        | (go_at_call 17; refine (refWords_any _ _ H.out hn _).mono ?_; rintro e w' ⟨rfl, hww⟩; cases hww.symm; clear hww; rw [EZ2.out])
        | (go_at_call 18; refine (refRest_any _ _ _ _ _ H.out hn _ X1.out HV.out HL.out).mono ?_; rintro e w' ⟨rfl, hww⟩; cases hww.symm; clear hww; rw [HS.out])
        | (go_at_call 9; refine (pack_okz _ _ _ _ x.length _ (Pk.unpack_length b n x).symm H.out (by rw [Pk.unpack_length]; exact hn) EQ.out _ C1.out (Pk.unpack_cds b n x)).mono ?_; rintro e u2 ⟨g2, rfl, P2, hB⟩; rw [EP.out] at P2; have W2 : Hid (Below w.heap.size w u2) := below_then W1.out hB; have X2 : Hid (Lst .u64 u2 a0 x) := X1.out.keep hB; have P2 : Hid (Lst .u64 u2 (some ⟨g2, 0, none⟩) x) := P2; clear hB X1 C1 W1)
        | (go_at_call 12; refine (refSame_anym _ _ _ _ _ _ _ _ _ rfl rfl P2.out X2.out (by omega) rfl).mono ?_; rintro e u3 ⟨rfl, hB⟩; have W3 : Hid (Below w.heap.size w u3) := below_then W2.out hB; clear hB X2 P2 W2)
        | (go_at_call 8; refine (pkAwake_any _).mono ?_; rintro e wa ⟨rfl, hba⟩))
      go_ret
      exact ⟨rfl, below_then W3.out hba⟩
    · have HS : Hid (Pk.stray b n x = true) := hs
      clear hs hb
      go_enter Try.func4, Try.ntmps4
      go_wp2_with fail
      refine (unpack_form _ _ _ _ x H.out hn _ HX.out HV.out HL.out HS.out).mono ?_
      rintro e u1 ⟨rfl, hB⟩
      have W1 : Hid (Below w.heap.size w u1) := hB
      have X1 : Hid (Lst .u64 u1 a0 x) := HX.out.keep hB
      clear hB HX
      go_wp2_with (first
        | (go_at_call 16; refine (refBits_yes _ H.out _).mono ?_; rintro e w' ⟨rfl, hww⟩; cases hww.symm; clear hww)
        | (go_at_call 17; refine (refWords_any _ _ H.out hn _).mono ?_; rintro e w' ⟨rfl, hww⟩; cases hww.symm; clear hww; rw [EZ2.out])
        | (go_at_call 18; refine (refRest_any _ _ _ _ _ H.out hn _ X1.out HV.out HL.out).mono ?_; rintro e w' ⟨rfl, hww⟩; cases hww.symm; clear hww; rw [HS.out])
        | (go_at_call 8; refine (pkAwake_any _).mono ?_; rintro e wa ⟨rfl, hba⟩))
      go_ret
      exact ⟨rfl, below_then W1.out hba⟩
  · have HZ : Hid (¬ x.length = Pk.size b n) := by show ¬ _; rw [ez]; exact hz
    have gz : ((x.length : Int) != (z : Int)) = true := by rw [bne_iff_ne]; omega
    clear hb ez
    go_enter Try.func4, Try.ntmps4
    go_wp2_with (first
      | (go_at_call 11; refine (unpack_shape _ _ _ _ _ H.out hn HZ.out _).mono ?_; rintro e w' ⟨rfl, hww⟩; cases hww.symm; clear hww)
      | (go_at_call 16; refine (refBits_yes _ H.out _).mono ?_; rintro e w' ⟨rfl, hww⟩; cases hww.symm; clear hww)
      | (go_at_call 17; refine (refWords_any _ _ H.out hn _).mono ?_; rintro e w' ⟨rfl, hww⟩; cases hww.symm; clear hww; rw [EZ.out])
      | (go_at_call 8; refine (pkAwake_any _).mono ?_; rintro e wa ⟨rfl, hba⟩))
    go_ret
    exact ⟨rfl, hba⟩

set_option maxRecDepth 100000 in
theorem lifted (os : Os) (started : os.Started) (H : Type) (enc : TypeId × Value → H) :
    ReturnsInHanded {} Try.checked os 4 .any (Rows.packBackSpec.pre6 enc Try.prog Try.f4 Rows.packBackRow.domain false) (Rows.packBackSpec.post enc Try.prog Try.f4 false true false false) := by
  refine returnsInHanded_of_change (C := Try.checked) own started (by kernel_rfl) Try.func4
    (ChangeSpec.witness6 (enc := enc) (C := Try.checked) false ⟨#[], #[.slice none 0 0, .int .i64 0, .int .i64 0], []⟩ 8 (by kernel_rfl) (by kernel_rfl) (by kernel_rfl) (by kernel_rfl)) ?_
  intro W base args ds gs before hval0 hW hcnd _
  have hval : ∀ (j : Nat) t v, Try.f4.params[j]? = some t → args[j]? = some v → Value.okWide Try.prog W .any base t v := hval0
  have hW' := hW
  obtain ⟨p, q, hA0, hV, rfl, hfz, hnd⟩ := hW
  have hA : DataW.TrodAll enc Try.prog W 0 (fun _ => true) true Try.f4.params.toList args.toList ds p := hA0
  rw [Try.params4] at hA hval
  obtain ⟨v0, vs0, d0, ds0, p0, q0, hargs, rfl, rfl, h0, r0⟩ := trodAll_cons hA
  obtain ⟨v1, vs1, d1, ds1, p1, q1, rfl, rfl, rfl, h1, r1⟩ := trodAll_cons r0
  obtain ⟨v2, vs2, d2, ds2, p2, q2, rfl, rfl, rfl, h2, r2⟩ := trodAll_cons r1
  obtain ⟨rfl, rfl, rfl⟩ := trodAll_nil r2
  obtain rfl : args = #[v0, v1, v2] := by cases args; simp_all
  obtain ⟨rfl, rfl⟩ := trodVars_none hV
  obtain ⟨a0, len0, cap0, rfl⟩ := okWide_slice Try.underlying24 (hval 0 24 v0 rfl rfl)
  have k0 := h0
  have lt0 : ∀ x ∈ p0, x.block < W.heap.size := by obtain ⟨m, hm⟩ := k0; exact DataW.trod_lt m _ _ _ hm
  obtain ⟨z0, w0⟩ : ∃ zs, IsRow .u64 W a0 len0 cap0 zs := by
    obtain ⟨fuel, hf⟩ := h0
    rcases open_ints Try.underlying24 Try.underlying41 (by kernel_rfl) hf with ⟨hcs, _⟩ | ⟨x, l, c, zs, hcs, _, hl, hm, hz, _, hcell, hwz⟩
    · simp [Value.cells] at hcs
      obtain ⟨rfl, rfl, rfl⟩ := hcs
      exact ⟨[], .inl ⟨rfl, rfl, rfl, rfl⟩⟩
    · simp [Value.cells] at hcs
      obtain ⟨rfl, rfl, rfl⟩ := hcs
      exact ⟨zs, .inr ⟨_, rfl, hl, hm, by simpa using hz, hcell, hwz⟩⟩
  obtain ⟨a1, rfl, rfl, rfl, w1⟩ := open_int Try.underlying3 (hval 1 3 v1 rfl rfl) h1
  obtain ⟨a2, rfl, rfl, rfl, w2⟩ := open_int Try.underlying3 (hval 2 3 v2 rfl rfl) h2
  clear hA0 hval0
  refine (walk a0 len0 cap0 z0 a1 a2 W w0 w1 w2).mono fun e W' ⟨he, bel⟩ => ?_
  subst he
  exact ⟨_, rfl, _, _, _, [], _, [], hW', trodAll_mk1 (shut_bool Try.underlying4 _), (trodAll_cons_mk (Below.trod laidOut (by kernel_rfl) (of_decide_eq_true (by kernel_rfl)) k0 bel lt0) (trodAll_cons_mk (shut_int Try.underlying3 w1) (trodAll_cons_mk (shut_int Try.underlying3 w2) trodAll_mk0))), rfl, bel.frame _, fun h => by cases h⟩

theorem over : Rows.packBackRow.holds Try.pinned (OpenSpec.ofChange Rows.packBackSpec) :=
  OpenClaim.holds_of_wide 4 Try.f4 rfl rfl rfl rfl rfl rfl rfl ⟨rfl, rfl, rfl, rfl, rfl⟩ rfl rfl rfl rfl rfl (by kernel_rfl) Try.func4 (by kernel_rfl)
    (of_decide_eq_true (by kernel_rfl)) (by unfold Func.isWrapper; first | (rw [if_pos (by decide +kernel)]; kernel_rfl) | (rw [if_neg (by decide +kernel)]; exact ⟨rfl, rfl⟩))
    (fun os started H enc _ => lifted os started H enc)

theorem proved : Rows.PackBackSaid := over
end Go.Proofs.Ytggclllegbiokaa.packBack

namespace Go.Proofs.Ytggclllegbiokaa
theorem packBack_holds : Rows.PackBackSaid := packBack.proved
#print axioms packBack_holds
end Go.Proofs.Ytggclllegbiokaa
