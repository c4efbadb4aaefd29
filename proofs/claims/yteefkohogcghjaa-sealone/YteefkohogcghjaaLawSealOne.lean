/- Sealed bytes of which one is another one are refused. -/
import Derived.Test.YteefkohogcghjaaRows
import Derived.Test.YteefkohogcghjaaSlOne
import Derived.Deep.RegionHeld3
import Derived.WalkKit
import Derived.ProofKit
import Derived.OpenShut
import Derived.ShutString
import Derived.ChangeOld
import Derived.Below
namespace Go.Proofs.Yteefkohogcghjaa.sealOne
open Go.ChangeShapes Go.WideShapes Go.ChangeAt Go.RowKit
open Go.ChangeMaps (open_string shut_string)
set_option linter.unusedVariables false

theorem own : ownKnob Try.prog.godebug = none := by kernel_rfl
theorem laidOut : laidOutB Try.prog = true := by kernel_rfl

/-- WHAT THE WALK IS TOLD OF A SLICE OF INTEGERS THAT CAME IN: it is nil; or it leads to a row of 'cap' cells, the numbers 'zs' (the first 'len' are its elements, the rest its spare room), each fitting its kind. -/
def IsRow (k : IntKind) (w : World) (a : Option Addr) (len cap : Nat) (zs : List Int) : Prop :=
  (a = none ∧ len = 0 ∧ cap = 0 ∧ zs = []) ∨
  ∃ x, a = some x ∧ len ≤ cap ∧ cap ≤ maxLen ∧ zs.length = cap ∧ (∀ i, i < zs.length → w.cell? (x.add i) = some (.int k (zs.getD i 0))) ∧ ∀ n ∈ zs, (Lit.int k n).wf = true

theorem walk (a0 : Option Addr) (len0 cap0 : Nat) (z0 : List Int) (a1 : Int) (a2 : Int) (w : World) (w0 : IsRow .u8 w a0 len0 cap0 z0) (w1 : (Lit.int .i64 a1).wf = true) (w2 : (Lit.int .u8 a2).wf = true) :
    Calls Try.prog 5 #[.slice a0 len0 cap0, .int .i64 a1, .int .u8 a2] w fun e w' => e = .returned (.bool true) ∧ Below w.heap.size w w' := by
  obtain ⟨x, hx, LX, BX, MX, CX, DX, FX⟩ := row_open8 w0
  subst hx
  have HX : Hid (Lst .u8 w a0 x) := LX
  have HB : Hid (Sl.Byt x) := BX
  have W2 := bounds_u8 w2
  clear w0 w1 w2 LX BX MX DX FX CX
  by_cases hm : 500 < x.length
  · go_enter Try.func5, Try.ntmps5
    go_wp2_with (go_at_call 8; refine (slAwake_any _).mono ?_; rintro e wa ⟨rfl, hba⟩)
    go_ret
    exact ⟨rfl, hba⟩
  by_cases h0 : a1 < 0
  · go_enter Try.func5, Try.ntmps5
    go_wp2_with (go_at_call 8; refine (slAwake_any _).mono ?_; rintro e wa ⟨rfl, hba⟩)
    go_ret
    exact ⟨rfl, hba⟩
  by_cases h1 : (x.length : Int) + 4 ≤ a1
  · go_enter Try.func5, Try.ntmps5
    go_wp2_with (go_at_call 8; refine (slAwake_any _).mono ?_; rintro e wa ⟨rfl, hba⟩)
    go_ret
    exact ⟨rfl, hba⟩
  obtain ⟨p, rfl⟩ := Int.eq_ofNat_of_zero_le (show 0 ≤ a1 by omega)
  obtain ⟨T, eT⟩ : ∃ T, x.length + 4 = T := ⟨_, rfl⟩
  have hTi : (x.length : Int) + 4 = (T : Int) := by omega
  have hp : p < T := by omega
  have hpi : (p : Int) < (T : Int) := by omega
  have hl : x.length ≤ 1000 := by omega
  have hT4 : 4 ≤ T := by omega
  have hT : T ≤ 1000 := by omega
  have ET : Hid (x.length + 4 = T) := eT
  have ECL : Hid ((Sl.close x).length = T) := by show _ = _; rw [Sl.close_length, eT]
  have g0 : decide ((500 : Int) < (x.length : Int)) = false := decide_eq_false (by omega)
  have g1 : decide ((p : Int) < 0) = false := decide_eq_false (by omega)
  have g2 : decide ((T : Int) ≤ (p : Int)) = false := decide_eq_false (by omega)
  clear eT h0 h1 hm
  by_cases hc : Ls.nth (Sl.close x) p = a2
  · have HCC : Hid (Ls.nth (Sl.close x) p = a2) := hc
    clear hc
    go_enter Try.func5, Try.ntmps5
    go_wp2_with fail
    refine (close_any a0 x.length _ x T rfl hl ET.out _ HX.out HB.out).mono ?_
    rintro e u ⟨g, rfl, hg, hr, hb1⟩
    have B1 : Hid (Below w.heap.size w u) := hb1
    have hcell := hr.cell hp
    rw [HCC.out] at hcell
    clear hb1 hr hg HX
    go_wp2_with (go_at_call 8; refine (slAwake_any _).mono ?_; rintro e wa ⟨rfl, hba⟩)
    go_ret
    exact ⟨rfl, below_then B1.out hba⟩
  have HNE : Hid (¬ Ls.nth (Sl.close x) p = a2) := hc
  obtain ⟨y, ey⟩ : ∃ y, Ls.nth (Sl.close x) p = y := ⟨_, rfl⟩
  have EY : Hid (Ls.nth (Sl.close x) p = y) := ey
  have hya : (y == a2) = false := beq_eq_false_iff_ne.2 (by rw [← ey]; exact hc)
  clear hc ey
  go_enter Try.func5, Try.ntmps5
  go_wp2_with fail
  refine (close_any a0 x.length _ x T rfl hl ET.out _ HX.out HB.out).mono ?_
  rintro e u ⟨g, rfl, hg, hr, hb1⟩
  have B1 : Hid (Below w.heap.size w u) := hb1
  have R1 : Hid (u.rowIs g 5 T (fun j => .int .u8 (Ls.nth (Sl.close x) j))) := hr
  have G1 : Hid (w.heap.size ≤ g) := hg
  have hcell := hr.cell hp
  rw [EY.out] at hcell
  have hfro := hr.frozen p
  clear hb1 hr hg HX
  have HS : Hid (((Sl.close x).set p a2).length = T) := by show _ = _; rw [List.length_set]; exact ECL.out
  have L2 : Hid (Lst .u8 (u.setCell ⟨g, p, none⟩ (.int .u8 a2)) (some ⟨g, 0, none⟩) ((Sl.close x).set p a2)) := row_lst (row_set R1.out ECL.out hp) HS.out
  have B2 : Hid (Below w.heap.size w (u.setCell ⟨g, p, none⟩ (.int .u8 a2))) := B1.out.setCell G1.out _
  have PC : Hid (p < (Sl.close x).length) := by show _ < _; rw [ECL.out]; exact hp
  go_wp2_with fail
  refine (open_bad _ T T ((Sl.close x).set p a2) HS.out.symm (by rw [HS.out]; exact hT4) (by rw [HS.out]; exact hT) (Nat.le_refl _) (by unfold maxLen; omega) _ L2.out (Sl.byt_set PC.out (Sl.close_byt HB.out) (by omega) (by omega)) (Sl.set_bad PC.out HB.out (by omega) (by omega) HNE.out)).mono ?_
  rintro e u2 ⟨rfl, hww⟩
  have B3 : Hid (Below w.heap.size w u2) := by rw [hww]; exact B2.out
  clear hww B2 B1 L2
  go_wp2_with (go_at_call 8; refine (slAwake_any _).mono ?_; rintro e wa ⟨rfl, hba⟩)
  go_ret
  exact ⟨rfl, below_then B3.out hba⟩

set_option maxRecDepth 100000 in
theorem lifted (os : Os) (started : os.Started) (H : Type) (enc : TypeId × Value → H) :
    ReturnsInHanded {} Try.checked os 5 .any (Rows.sealOneSpec.pre6 enc Try.prog Try.f5 Rows.sealOneRow.domain false) (Rows.sealOneSpec.post enc Try.prog Try.f5 false true false false) := by
  refine returnsInHanded_of_change (C := Try.checked) own started (by kernel_rfl) Try.func5
    (ChangeSpec.witness6 (enc := enc) (C := Try.checked) false ⟨#[], #[.slice none 0 0, .int .i64 0, .int .u8 0], []⟩ 8 (by kernel_rfl) (by kernel_rfl) (by kernel_rfl) (by kernel_rfl)) ?_
  intro W base args ds gs before hval0 hW hcnd _
  have hval : ∀ (j : Nat) t v, Try.f5.params[j]? = some t → args[j]? = some v → Value.okWide Try.prog W .any base t v := hval0
  have hW' := hW
  obtain ⟨p, q, hA0, hV, rfl, hfz, hnd⟩ := hW
  have hA : DataW.TrodAll enc Try.prog W 0 (fun _ => true) true Try.f5.params.toList args.toList ds p := hA0
  rw [Try.params5] at hA hval
  obtain ⟨v0, vs0, d0, ds0, p0, q0, hargs, rfl, rfl, h0, r0⟩ := trodAll_cons hA
  obtain ⟨v1, vs1, d1, ds1, p1, q1, rfl, rfl, rfl, h1, r1⟩ := trodAll_cons r0
  obtain ⟨v2, vs2, d2, ds2, p2, q2, rfl, rfl, rfl, h2, r2⟩ := trodAll_cons r1
  obtain ⟨rfl, rfl, rfl⟩ := trodAll_nil r2
  obtain rfl : args = #[v0, v1, v2] := by cases args; simp_all
  obtain ⟨rfl, rfl⟩ := trodVars_none hV
  obtain ⟨a0, len0, cap0, rfl⟩ := okWide_slice Try.underlying22 (hval 0 22 v0 rfl rfl)
  have k0 := h0
  have lt0 : ∀ x ∈ p0, x.block < W.heap.size := by obtain ⟨m, hm⟩ := k0; exact DataW.trod_lt m _ _ _ hm
  obtain ⟨z0, w0⟩ : ∃ zs, IsRow .u8 W a0 len0 cap0 zs := by
    obtain ⟨fuel, hf⟩ := h0
    rcases open_ints Try.underlying22 Try.underlying5 (by kernel_rfl) hf with ⟨hcs, _⟩ | ⟨x, l, c, zs, hcs, _, hl, hm, hz, _, hcell, hwz⟩
    · simp [Value.cells] at hcs
      obtain ⟨rfl, rfl, rfl⟩ := hcs
      exact ⟨[], .inl ⟨rfl, rfl, rfl, rfl⟩⟩
    · simp [Value.cells] at hcs
      obtain ⟨rfl, rfl, rfl⟩ := hcs
      exact ⟨zs, .inr ⟨_, rfl, hl, hm, by simpa using hz, hcell, hwz⟩⟩
  obtain ⟨a1, rfl, rfl, rfl, w1⟩ := open_int Try.underlying3 (hval 1 3 v1 rfl rfl) h1
  obtain ⟨a2, rfl, rfl, rfl, w2⟩ := open_int Try.underlying5 (hval 2 5 v2 rfl rfl) h2
  clear hA0 hval0
  refine (walk a0 len0 cap0 z0 a1 a2 W w0 w1 w2).mono fun e W' ⟨he, bel⟩ => ?_
  subst he
  exact ⟨_, rfl, _, _, _, [], _, [], hW', trodAll_mk1 (shut_bool Try.underlying4 _), (trodAll_cons_mk (Below.trod laidOut (by kernel_rfl) (of_decide_eq_true (by kernel_rfl)) k0 bel lt0) (trodAll_cons_mk (shut_int Try.underlying3 w1) (trodAll_cons_mk (shut_int Try.underlying5 w2) trodAll_mk0))), rfl, bel.frame _, fun h => by cases h⟩

theorem over : Rows.sealOneRow.holds Try.pinned (OpenSpec.ofChange Rows.sealOneSpec) :=
  OpenClaim.holds_of_wide 5 Try.f5 rfl rfl rfl rfl rfl rfl rfl ⟨rfl, rfl, rfl, rfl, rfl⟩ rfl rfl rfl rfl rfl (by kernel_rfl) Try.func5 (by kernel_rfl)
    (of_decide_eq_true (by kernel_rfl)) (by unfold Func.isWrapper; first | (rw [if_pos (by decide +kernel)]; kernel_rfl) | (rw [if_neg (by decide +kernel)]; exact ⟨rfl, rfl⟩))
    (fun os started H enc _ => lifted os started H enc)

theorem proved : Rows.SealOneSaid := over
end Go.Proofs.Yteefkohogcghjaa.sealOne

namespace Go.Proofs.Yteefkohogcghjaa
theorem sealOne_holds : Rows.SealOneSaid := sealOne.proved
#print axioms sealOne_holds
end Go.Proofs.Yteefkohogcghjaa
