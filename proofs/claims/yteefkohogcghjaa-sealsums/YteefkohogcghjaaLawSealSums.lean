/- Any bytes have the sum that the document says; sealed they are opened again. -/
import Derived.Test.YteefkohogcghjaaRows
import Derived.Test.YteefkohogcghjaaSlAwake
import Derived.Deep.RegionHeld3
import Derived.WalkKit
import Derived.ProofKit
import Derived.OpenShut
import Derived.ShutString
import Derived.ChangeOld
import Derived.Below
namespace Go.Proofs.Yteefkohogcghjaa.sealSums
open Go.ChangeShapes Go.WideShapes Go.ChangeAt Go.RowKit
open Go.ChangeMaps (open_string shut_string)
set_option linter.unusedVariables false

theorem own : ownKnob Try.prog.godebug = none := by kernel_rfl
theorem laidOut : laidOutB Try.prog = true := by kernel_rfl

/-- WHAT THE WALK IS TOLD OF A SLICE OF INTEGERS THAT CAME IN: it is nil; or it leads to a row of 'cap' cells, the numbers 'zs' (the first 'len' are its elements, the rest its spare room), each fitting its kind. -/
def IsRow (k : IntKind) (w : World) (a : Option Addr) (len cap : Nat) (zs : List Int) : Prop :=
  (a = none ∧ len = 0 ∧ cap = 0 ∧ zs = []) ∨
  ∃ x, a = some x ∧ len ≤ cap ∧ cap ≤ maxLen ∧ zs.length = cap ∧ (∀ i, i < zs.length → w.cell? (x.add i) = some (.int k (zs.getD i 0))) ∧ ∀ n ∈ zs, (Lit.int k n).wf = true

theorem walk (a0 : Option Addr) (len0 cap0 : Nat) (z0 : List Int) (w : World) (w0 : IsRow .u8 w a0 len0 cap0 z0) :
    Calls Try.prog 3 #[.slice a0 len0 cap0] w fun e w' => e = .returned (.bool true) ∧ Below w.heap.size w w' := by
  obtain ⟨x, hx, LX, BX, MX, CX, DX, FX⟩ := row_open8 w0
  subst hx
  have HX : Hid (Lst .u8 w a0 x) := LX
  have HB : Hid (Sl.Byt x) := BX
  clear w0 LX BX DX FX CX MX
  by_cases hm : 500 < x.length
  · go_enter Try.func3, Try.ntmps3
    go_wp2_with (go_at_call 8; refine (slAwake_any _).mono ?_; rintro e wa ⟨rfl, hba⟩)
    go_ret
    exact ⟨rfl, hba⟩
  have hl : x.length ≤ 1000 := by omega
  obtain ⟨T, eT⟩ : ∃ T, x.length + 4 = T := ⟨_, rfl⟩
  have hT4 : 4 ≤ T := by omega
  have hT : T ≤ 1000 := by omega
  obtain ⟨h, eh⟩ : ∃ h, Sl.sum x = h := ⟨_, rfl⟩
  obtain ⟨s, es⟩ : ∃ s, strOfNums x = s := ⟨_, rfl⟩
  obtain ⟨sc, esc⟩ : ∃ sc, strOfNums (Sl.close x) = sc := ⟨_, rfl⟩
  have ET : Hid (x.length + 4 = T) := eT
  have EH : Hid (Sl.sum x = h) := eh
  have ES : Hid (strOfNums x = s) := es
  have ESC : Hid (strOfNums (Sl.close x) = sc) := esc
  clear eT eh es esc
  go_enter Try.func3, Try.ntmps3
  go_wp2_with fail
  refine (close_any a0 x.length _ x T rfl hl ET.out _ HX.out HB.out).mono ?_
  rintro e u1 ⟨g1, rfl, hg1, hr1, hb1⟩
  have B1 : Hid (Below w.heap.size w u1) := hb1
  have X1 : Hid (Lst .u8 u1 a0 x) := HX.out.keep hb1
  have ECL : Hid ((Sl.close x).length = T) := by show _ = _; rw [Sl.close_length, ET.out]
  have C1 : Hid (Lst .u8 u1 (some ⟨g1, 0, none⟩) (Sl.close x)) := row_lst hr1 ECL.out
  clear hb1 hr1 hg1 HX
  go_wp2_with fail
  refine (open_ok _ T T x.length (Sl.close x) ECL.out.symm (by rw [ECL.out]; exact hT4) (by rw [ECL.out]; exact hT) (Nat.le_refl _) (by unfold maxLen; omega) (by rw [Sl.close_length]; omega) _ C1.out (Sl.close_byt HB.out) (Sl.sealed_close _)).mono ?_
  rintro e u ⟨a3, c3, rfl, hL, _, _, _, hb2⟩
  have B2 : Hid (Below w.heap.size w u) := below_then B1.out hb2
  have X2 : Hid (Lst .u8 u a0 x) := X1.out.keep hb2
  have C2 : Hid (Lst .u8 u (some ⟨g1, 0, none⟩) (Sl.close x)) := C1.out.keep hb2
  have O2 : Hid (Lst .u8 u a3 x) := by
    have := Sl.take_close x
    rw [Sl.close_length, Nat.add_sub_cancel] at this
    rw [this] at hL
    exact hL
  clear hL hb2 B1 X1 C1
  have KS : Hid (∀ w', Below u.heap.size u w' → (convert 22 9 (.slice a0 x.length cap0)).run Try.prog w' = .ok (.string s) w' ∧ (convert 22 9 (.slice (some ⟨g1, 0, none⟩) T T)).run Try.prog w' = .ok (.string sc) w' ∧ (convert 22 9 (.slice a3 x.length c3)).run Try.prog w' = .ok (.string s) w' ∧ Hid (Below u.heap.size u w')) := by
    intro w' hb
    refine ⟨?_, ?_, ?_, hb⟩
    · rw [← ES.out]; exact conv_text _ _ _ Try.underlying22 Try.underlying5 Try.underlying9 (X2.out.keep hb) HB.out _ _ rfl
    · rw [← ESC.out]; exact conv_text _ _ _ Try.underlying22 Try.underlying5 Try.underlying9 (C2.out.keep hb) (Sl.close_byt HB.out) _ _ ECL.out.symm
    · rw [← ES.out]; exact conv_text _ _ _ Try.underlying22 Try.underlying5 Try.underlying9 (O2.out.keep hb) HB.out _ _ rfl
  go_wp2_with fail
  go_region_held3 (fun w' => (convert 22 9 (.slice a0 x.length cap0)).run Try.prog w' = .ok (.string s) w' ∧ (convert 22 9 (.slice (some ⟨g1, 0, none⟩) T T)).run Try.prog w' = .ok (.string sc) w' ∧ (convert 22 9 (.slice a3 x.length c3)).run Try.prog w' = .ok (.string s) w' ∧ Hid (Below u.heap.size u w'))
    (first
      | exact KS.out _ ((Below.refl _ _).drew)
      | exact KS.out _ hbc.out
      | assumption)
    (first
      | (go_at_call 11; refine (sum_any a0 _ _ x h rfl (by unfold maxLen; omega) EH.out _ (X2.out.draws 1) HB.out).mono ?_; rintro e w' ⟨rfl, hww⟩; cases hww.symm; clear hww)
      | (go_at_call 12; refine (refSum_any s x h ES.out (by unfold maxLen; omega) EH.out _ HB.out).mono ?_; rintro e w' ⟨rfl, hww⟩; cases hww.symm; clear hww)
      | (go_at_call 13; refine (refClose_any s x sc ES.out hl HB.out ESC.out _).mono ?_; rintro e w' ⟨rfl, hww⟩; have hbc : Hid (Below u.heap.size u w') := ((Below.refl _ _).drew).trans hww; clear hww)
      | (go_at_call 8; refine (slAwake_any _).mono ?_; rintro e w' ⟨rfl, hww⟩; have hbc : Hid (Below u.heap.size u w') := below_then hbc.out hww; clear hww))
  go_wp2
  go_ret
  exact ⟨rfl, below_then B2.out hbc.out⟩

set_option maxRecDepth 100000 in
theorem lifted (os : Os) (started : os.Started) (H : Type) (enc : TypeId × Value → H) :
    ReturnsInHanded {} Try.checked os 3 .any (Rows.sealSumsSpec.pre6 enc Try.prog Try.f3 Rows.sealSumsRow.domain false) (Rows.sealSumsSpec.post enc Try.prog Try.f3 false true false false) := by
  refine returnsInHanded_of_change (C := Try.checked) own started (by kernel_rfl) Try.func3
    (ChangeSpec.witness6 (enc := enc) (C := Try.checked) false ⟨#[], #[.slice none 0 0], []⟩ 8 (by kernel_rfl) (by kernel_rfl) (by kernel_rfl) (by kernel_rfl)) ?_
  intro W base args ds gs before hval0 hW hcnd _
  have hval : ∀ (j : Nat) t v, Try.f3.params[j]? = some t → args[j]? = some v → Value.okWide Try.prog W .any base t v := hval0
  have hW' := hW
  obtain ⟨p, q, hA0, hV, rfl, hfz, hnd⟩ := hW
  have hA : DataW.TrodAll enc Try.prog W 0 (fun _ => true) true Try.f3.params.toList args.toList ds p := hA0
  rw [Try.params3] at hA hval
  obtain ⟨v0, vs0, d0, ds0, p0, q0, hargs, rfl, rfl, h0, r0⟩ := trodAll_cons hA
  obtain ⟨rfl, rfl, rfl⟩ := trodAll_nil r0
  obtain rfl : args = #[v0] := by cases args; simp_all
  obtain ⟨rfl, rfl⟩ := trodVars_none hV
  obtain ⟨a0, len0, cap0, rfl⟩ := okWide_slice Try.underlying22 (hval 0 22 v0 rfl rfl)
  have k0 := h0
  have lt0 : ∀ x ∈ p0, x.block < W.heap.size := by obtain ⟨m, hm⟩ := k0; exact DataW.trod_lt m _ _ _ hm
  obtain ⟨z0, w0⟩ : ∃ zs, IsRow .u8 W a0 len0 cap0 zs := by
    obtain ⟨fuel, hf⟩ := h0
    rcases open_ints Try.underlying22 Try.underlying5 (by kernel_rfl) hf with ⟨hcs, _⟩ | ⟨x, l, c, zs, hcs, _, hl, hm, hz, _, hcell, hwz⟩
    · simp [Value.cells] at hcs
      obtain ⟨rfl, rfl, rfl⟩ := hcs
      exact ⟨[], .inl ⟨rfl, rfl, rfl, rfl⟩⟩
    · simp [Value.cells] at hcs
      obtain ⟨rfl, rfl, rfl⟩ := hcs
      exact ⟨zs, .inr ⟨_, rfl, hl, hm, by simpa using hz, hcell, hwz⟩⟩
  clear hA0 hval0
  refine (walk a0 len0 cap0 z0 W w0).mono fun e W' ⟨he, bel⟩ => ?_
  subst he
  exact ⟨_, rfl, _, _, _, [], _, [], hW', trodAll_mk1 (shut_bool Try.underlying4 _), (trodAll_cons_mk (Below.trod laidOut (by kernel_rfl) (of_decide_eq_true (by kernel_rfl)) k0 bel lt0) trodAll_mk0), rfl, bel.frame _, fun h => by cases h⟩

theorem over : Rows.sealSumsRow.holds Try.pinned (OpenSpec.ofChange Rows.sealSumsSpec) :=
  OpenClaim.holds_of_wide 3 Try.f3 rfl rfl rfl rfl rfl rfl rfl ⟨rfl, rfl, rfl, rfl, rfl⟩ rfl rfl rfl rfl rfl (by kernel_rfl) Try.func3 (by kernel_rfl)
    (of_decide_eq_true (by kernel_rfl)) (by unfold Func.isWrapper; first | (rw [if_pos (by decide +kernel)]; kernel_rfl) | (rw [if_neg (by decide +kernel)]; exact ⟨rfl, rfl⟩))
    (fun os started H enc _ => lifted os started H enc)

theorem proved : Rows.SealSumsSaid := over
end Go.Proofs.Yteefkohogcghjaa.sealSums

namespace Go.Proofs.Yteefkohogcghjaa
theorem sealSums_holds : Rows.SealSumsSaid := sealSums.proved
#print axioms sealSums_holds
end Go.Proofs.Yteefkohogcghjaa
