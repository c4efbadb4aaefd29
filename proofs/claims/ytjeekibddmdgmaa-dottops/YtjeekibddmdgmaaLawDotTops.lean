/- The greatest number of any list is told, and the first place where it stands: DotTops answers true for every input. -/
import Derived.Test.YtjeekibddmdgmaaRows
import Derived.Test.YtjeekibddmdgmaaDtAwake
import Derived.Deep.RegionWith
import Derived.WalkKit
import Derived.ProofKit
import Derived.OpenShut
import Derived.ShutString
import Derived.ChangeOld
import Derived.Below
namespace Go.Proofs.Ytjeekibddmdgmaa.dotTops
open Go.ChangeShapes Go.WideShapes Go.ChangeAt Go.RowKit
open Go.ChangeMaps (open_string shut_string)
set_option linter.unusedVariables false

theorem own : ownKnob Try.prog.godebug = none := by kernel_rfl
theorem laidOut : laidOutB Try.prog = true := by kernel_rfl

/-- WHAT THE WALK IS TOLD OF A SLICE OF INTEGERS THAT CAME IN: it is nil; or it leads to a row of 'cap' cells, the numbers 'zs' (the first 'len' are its elements, the rest its spare room), each fitting its kind. -/
def IsRow (k : IntKind) (w : World) (a : Option Addr) (len cap : Nat) (zs : List Int) : Prop :=
  (a = none ∧ len = 0 ∧ cap = 0 ∧ zs = []) ∨
  ∃ x, a = some x ∧ len ≤ cap ∧ cap ≤ maxLen ∧ zs.length = cap ∧ (∀ i, i < zs.length → w.cell? (x.add i) = some (.int k (zs.getD i 0))) ∧ ∀ n ∈ zs, (Lit.int k n).wf = true

theorem walk (a0 : Option Addr) (len0 cap0 : Nat) (z0 : List Int) (w : World) (w0 : IsRow .i32 w a0 len0 cap0 z0) :
    Calls Try.prog 6 #[.slice a0 len0 cap0] w fun e w' => e = .returned (.bool true) ∧ Below w.heap.size w w' := by
  obtain ⟨x, hx, LX, IX, MX, _⟩ := row_open w0
  subst hx
  have HX : Hid (Lst .i32 w a0 x) := LX
  clear w0 LX MX IX
  by_cases hm : 2000 < x.length
  · go_enter Try.func6, Try.ntmps6
    go_wp2_with (go_at_call 10; refine (dtAwake_any _).mono ?_; rintro e w2 ⟨rfl, hb⟩)
    go_ret
    exact ⟨rfl, hb⟩
  · have hm1 : x.length ≤ 2000 := by omega
    by_cases h0 : x.length = 0
    · have e0 : x = [] := List.length_eq_zero_iff.1 h0
      subst e0
      clear hm hm1 h0
      go_enter Try.func6, Try.ntmps6
      go_wp2_with (first
        | (go_at_call 21; refine (top_none _ _ _).mono ?_; rintro e w' ⟨rfl, rfl⟩)
        | (go_at_call 10; refine (dtAwake_any _).mono ?_; rintro e w2 ⟨rfl, hb⟩))
      go_ret
      exact ⟨rfl, hb⟩
    · have hp : 0 < x.length := by omega
      have ht := Ls.top_lt hp
      obtain ⟨b, o, rfl, hc⟩ := HX.out.get hp
      have hct := hc _ ht
      clear hc hm h0
      go_enter Try.func6, Try.ntmps6
      go_wp2_with fail
      refine (top_any _ _ _ _ HX.out hp hm1).mono ?_
      rintro e w1 ⟨rfl, n1, hw1⟩
      have B1 : Hid (Below w.heap.size w w1) := by show Below _ _ _; rw [hw1]; exact below_drewN (Below.refl _ _) n1
      have K1 : Hid (Lst .i32 w1 (some ⟨b, o, none⟩) x) := HX.out.keep B1.out
      have c1 : w1.cell? ⟨b, o + Ls.top x, none⟩ = some (.int .i32 (Ls.nth x (Ls.top x))) := by rw [B1.out.cell (p := ⟨b, o + Ls.top x, none⟩) (World.block_lt_of_cell? w _ hct)]; exact hct
      clear hw1 hct
      go_wp2_with fail
      refine (refTop_any _ _ _ _ K1.out hm1).mono ?_
      rintro e w2 ⟨rfl, n2, hw2⟩
      have B2 : Hid (Below w1.heap.size w1 w2) := by show Below _ _ _; rw [hw2]; exact below_drewN (Below.refl _ _) n2
      have K2 : Hid (Lst .i32 w2 (some ⟨b, o, none⟩) x) := K1.out.keep B2.out
      clear hw2
      have c2 : w2.cell? ⟨b, o + Ls.top x, none⟩ = some (.int .i32 (Ls.nth x (Ls.top x))) := by rw [B2.out.cell (p := ⟨b, o + Ls.top x, none⟩) (World.block_lt_of_cell? w1 _ c1)]; exact c1
      go_wp2_with fail
      refine (refTop_any _ _ _ _ K2.out hm1).mono ?_
      rintro e w3 ⟨rfl, n3, hw3⟩
      have B3 : Hid (Below w2.heap.size w2 w3) := by show Below _ _ _; rw [hw3]; exact below_drewN (Below.refl _ _) n3
      clear hw3
      have c3 : w3.cell? ⟨b, o + Ls.top x, none⟩ = some (.int .i32 (Ls.nth x (Ls.top x))) := by rw [B3.out.cell (p := ⟨b, o + Ls.top x, none⟩) (World.block_lt_of_cell? w2 _ c2)]; exact c2
      clear c1 c2
      go_wp2_with (go_at_call 10; refine (dtAwake_any _).mono ?_; rintro e w4 ⟨rfl, hb⟩)
      go_ret
      exact ⟨rfl, below_then (below_then (below_then B1.out B2.out) B3.out) hb⟩

set_option maxRecDepth 100000 in
theorem lifted (os : Os) (started : os.Started) (H : Type) (enc : TypeId × Value → H) :
    ReturnsInHanded {} Try.checked os 6 .any (Rows.dotTopsSpec.pre6 enc Try.prog Try.f6 Rows.dotTopsRow.domain false) (Rows.dotTopsSpec.post enc Try.prog Try.f6 false true false false) := by
  refine returnsInHanded_of_change (C := Try.checked) own started (by kernel_rfl) Try.func6
    (ChangeSpec.witness6 (enc := enc) (C := Try.checked) false ⟨#[], #[.slice none 0 0], []⟩ 8 (by kernel_rfl) (by kernel_rfl) (by kernel_rfl) (by kernel_rfl)) ?_
  intro W base args ds gs before hval0 hW hcnd _
  have hval : ∀ (j : Nat) t v, Try.f6.params[j]? = some t → args[j]? = some v → Value.okWide Try.prog W .any base t v := hval0
  have hW' := hW
  obtain ⟨p, q, hA0, hV, rfl, hfz, hnd⟩ := hW
  have hA : DataW.TrodAll enc Try.prog W 0 (fun _ => true) true Try.f6.params.toList args.toList ds p := hA0
  rw [Try.params6] at hA hval
  obtain ⟨v0, vs0, d0, ds0, p0, q0, hargs, rfl, rfl, h0, r0⟩ := trodAll_cons hA
  obtain ⟨rfl, rfl, rfl⟩ := trodAll_nil r0
  obtain rfl : args = #[v0] := by cases args; simp_all
  obtain ⟨rfl, rfl⟩ := trodVars_none hV
  obtain ⟨a0, len0, cap0, rfl⟩ := okWide_slice Try.underlying22 (hval 0 22 v0 rfl rfl)
  have k0 := h0
  have lt0 : ∀ x ∈ p0, x.block < W.heap.size := by obtain ⟨m, hm⟩ := k0; exact DataW.trod_lt m _ _ _ hm
  obtain ⟨z0, w0⟩ : ∃ zs, IsRow .i32 W a0 len0 cap0 zs := by
    obtain ⟨fuel, hf⟩ := h0
    rcases open_ints Try.underlying22 Try.underlying21 (by kernel_rfl) hf with ⟨hcs, _⟩ | ⟨x, l, c, zs, hcs, _, hl, hm, hz, _, hcell, hwz⟩
    · simp [Value.cells] at hcs
      obtain ⟨rfl, rfl, rfl⟩ := hcs
      exact ⟨[], .inl ⟨rfl, rfl, rfl, rfl⟩⟩
    · simp [Value.cells] at hcs
      obtain ⟨rfl, rfl, rfl⟩ := hcs
      exact ⟨zs, .inr ⟨_, rfl, hl, hm, by simpa using hz, hcell, hwz⟩⟩
  clear hA0 hval0
  refine (walk a0 len0 cap0 z0 W w0).mono fun e W' ⟨he, bel⟩ => ?_
  subst he
  exact ⟨_, rfl, _, _, _, [], _, [], hW', trodAll_mk1 (shut_bool Try.underlying4 _), (trodAll_cons_mk (Below.trod laidOut (by kernel_rfl) (of_decide_eq_true (by kernel_rfl)) k0 bel lt0) trodAll_mk0), rfl, bel.frame _, fun h => by cases h⟩

theorem over : Rows.dotTopsRow.holds Try.pinned (OpenSpec.ofChange Rows.dotTopsSpec) :=
  OpenClaim.holds_of_wide 6 Try.f6 rfl rfl rfl rfl rfl rfl rfl ⟨rfl, rfl, rfl, rfl, rfl⟩ rfl rfl rfl rfl rfl (by kernel_rfl) Try.func6 (by kernel_rfl)
    (of_decide_eq_true (by kernel_rfl)) (by unfold Func.isWrapper; first | (rw [if_pos (by decide +kernel)]; kernel_rfl) | (rw [if_neg (by decide +kernel)]; exact ⟨rfl, rfl⟩))
    (fun os started H enc _ => lifted os started H enc)

theorem proved : Rows.DotTopsSaid := over
end Go.Proofs.Ytjeekibddmdgmaa.dotTops

namespace Go.Proofs.Ytjeekibddmdgmaa
theorem dotTops_holds : Rows.DotTopsSaid := dotTops.proved
#print axioms dotTops_holds
end Go.Proofs.Ytjeekibddmdgmaa
