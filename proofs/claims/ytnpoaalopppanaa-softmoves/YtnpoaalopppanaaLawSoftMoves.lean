/- A number put to all scores, such that none is cut, changes no weight: SoftMoves answers true for every input. -/
import Derived.Test.YtnpoaalopppanaaRows
import Derived.Test.YtnpoaalopppanaaSfAwake
import Derived.Deep.RegionWith
import Derived.WalkKit
import Derived.ProofKit
import Derived.OpenShut
import Derived.ShutString
import Derived.ChangeOld
import Derived.Below
namespace Go.Proofs.Ytnpoaalopppanaa.softMoves
open Go.ChangeShapes Go.WideShapes Go.ChangeAt Go.RowKit
open Go.ChangeMaps (open_string shut_string)
set_option linter.unusedVariables false

theorem own : ownKnob Try.prog.godebug = none := by kernel_rfl
theorem laidOut : laidOutB Try.prog = true := by kernel_rfl

/-- WHAT THE WALK IS TOLD OF A SLICE OF INTEGERS THAT CAME IN: it is nil; or it leads to a row of 'cap' cells, the numbers 'zs' (the first 'len' are its elements, the rest its spare room), each fitting its kind. -/
def IsRow (k : IntKind) (w : World) (a : Option Addr) (len cap : Nat) (zs : List Int) : Prop :=
  (a = none ∧ len = 0 ∧ cap = 0 ∧ zs = []) ∨
  ∃ x, a = some x ∧ len ≤ cap ∧ cap ≤ maxLen ∧ zs.length = cap ∧ (∀ i, i < zs.length → w.cell? (x.add i) = some (.int k (zs.getD i 0))) ∧ ∀ n ∈ zs, (Lit.int k n).wf = true

set_option maxHeartbeats 1600000 in
theorem walk (a0 : Option Addr) (len0 cap0 : Nat) (z0 : List Int) (a1 : Int) (w : World) (w0 : IsRow .i32 w a0 len0 cap0 z0) (w1 : (Lit.int .i32 a1).wf = true) :
    Calls Try.prog 5 #[.slice a0 len0 cap0, .int .i32 a1] w fun e w' => e = .returned (.bool true) ∧ Below w.heap.size w w' := by
  obtain ⟨x, hx, LX, IX, MX, CX, DX, _⟩ := row_open w0
  subst hx
  have b1 := bounds_i32 w1
  obtain ⟨i0, hi0, hz0, hz1, hz2⟩ := info_parts Try.infoInt32
  have HX : Hid (Lst .i32 w a0 x) := LX
  have JX : Hid (Ls.In32 x) := IX
  clear w0 w1 LX MX IX DX CX
  by_cases h1 : 1024 < x.length
  · go_enter Try.func5, Try.ntmps5
    go_wp2_with (go_at_call 8; refine (sfAwake_any _).mono ?_; rintro e wa ⟨rfl, hb⟩)
    go_ret
    exact ⟨rfl, hb⟩
  by_cases h0 : x.length = 0
  · go_enter Try.func5, Try.ntmps5
    go_wp2_with (go_at_call 8; refine (sfAwake_any _).mono ?_; rintro e wa ⟨rfl, hb⟩)
    go_ret
    exact ⟨rfl, hb⟩
  by_cases h2 : a1 < -536870912
  · go_enter Try.func5, Try.ntmps5
    go_wp2_with (go_at_call 8; refine (sfAwake_any _).mono ?_; rintro e wa ⟨rfl, hb⟩)
    go_ret
    exact ⟨rfl, hb⟩
  by_cases h3 : 536870912 < a1
  · go_enter Try.func5, Try.ntmps5
    go_wp2_with (go_at_call 8; refine (sfAwake_any _).mono ?_; rintro e wa ⟨rfl, hb⟩)
    go_ret
    exact ⟨rfl, hb⟩
  have hp : 0 < x.length := by omega
  have hl : x.length ≤ 1024 := by omega
  have ha1 : -536870912 ≤ a1 := by omega
  have ha2 : a1 ≤ 536870912 := by omega
  have g0 : ((x.length : Int) == 0) = false := beq_eq_false_iff_ne.2 (by omega)
  have g1 : decide (1024 < (x.length : Int)) = false := by simp; omega
  have g2 : decide (a1 < -536870912) = false := by simp; omega
  have g3 : decide (536870912 < a1) = false := by simp; omega
  clear h0 h1 h2 h3 b1
  have EL : Hid ((Tb.weights x).length = x.length) := Tb.weights_length x
  have EM : Hid ((Tb.shift x a1).length = x.length) := Tb.shift_length x a1
  have EW : Hid (Tb.weights (Tb.shift x a1) = Tb.weights x) := Tb.weights_shift hp
  go_enter Try.func5, Try.ntmps5
  go_wp2
  clear g0 g1 g2 g3
  go_loopw [5, 31] (fun v i wr => ∃ k : Nat, k ≤ x.length ∧ i = .int .i64 k ∧ wr.ownsRow w.heap.size 21 1 v k ((Ls.gen k fun i => a1 + Ls.nth x i).map (Value.int .i32)) ∧ Below w.heap.size w wr ∧ ∀ j, j < k → -536870912 ≤ Ls.nth x j ∧ Ls.nth x j ≤ 536870912) (fun _ i _ => x.length - (intOf i).toNat)
  case atStart => exact ⟨0, Nat.zero_le _, rfl, World.ownsRow_nil _ _ _ _, Below.refl _ _, fun j hj => by omega⟩
  case round =>
    obtain ⟨k, hk, rfl, hown, hbel, hall⟩ := hrel
    have HR : Hid (∀ j, j < k → -536870912 ≤ Ls.nth x j ∧ Ls.nth x j ≤ 536870912) := hall
    clear hall
    by_cases hlt : k < x.length
    · obtain ⟨b1, o1, rfl, hc1⟩ := (HX.out.keep hbel).get hlt
      have hck1 := hc1 k hlt
      have hsz := hbel.size
      clear hc1
      by_cases c1 : Ls.nth x k < -536870912
      · go_wp2_with (go_at_call 8; refine (sfAwake_any _).mono ?_; rintro e wa ⟨rfl, hb⟩)
        go_ret
        exact ⟨rfl, below_then hbel hb⟩
      by_cases c2 : 536870912 < Ls.nth x k
      · go_wp2_with (go_at_call 8; refine (sfAwake_any _).mono ?_; rintro e wa ⟨rfl, hb⟩)
        go_ret
        exact ⟨rfl, below_then hbel hb⟩
      go_wp2_with (at_builtin; refine wpList_append_lies _ rfl _ _ _ rfl w.heap.size 21 i0 _ 1 4 Try.underlying22 hi0 hz0 hz1 hz2 rfl (by omega) _ k _ (by rfl) (hown.alloc _) ⟨wr.heap.size, 0, none⟩ 1 1 [.int .i32 (a1 + Ls.nth x k)] (by rfl) (by rfl) (World.news_of_block (cs := #[.int .i32 (a1 + Ls.nth x k)]) (t := 21) (fr := (0, 0)) (heap_alloc_new wr _)) (by simp [Value.oneCell']) (by omega) (by unfold maxLen; omega) (by omega) (by simp; omega) (wr.heap.size + 1) (by simp) ?_; intro gg cap w1 hown1 hgrow hat hlt1; have hb2 : Below w.heap.size w w1 := (hbel.alloc (by omega) _).grown hgrow (by simp; omega) (fun j hj => (hown.lt j hj).1); clear hgrow hown hbel hck1)
      go_roundw
      case rel =>
        refine ⟨k + 1, by omega, by go_num, gen_snoc_own hown1 rfl, hb2, fun j hj => ?_⟩
        by_cases e : j = k
        · subst e; omega
        · exact HR.out j (by omega)
      case measure => simp [intOf]; omega
    · have e : k = x.length := by omega
      subst e
      obtain ⟨a2, c2, rfl, h3⟩ := lst_of_ownm (l := Tb.shift x a1) hown EM.out.symm
      have W1 : Hid (Below w.heap.size w wr) := hbel
      have X1 : Hid (Lst .i32 wr a0 x) := HX.out.keep hbel
      have T1 : Hid (Lst .i32 wr a2 (Tb.shift x a1)) := h3
      have I1 : Hid (Ls.In32 (Tb.shift x a1)) := Tb.shift_in32 ha1 ha2 HR.out
      clear hown hbel h3 HR
      go_wp2_with fail
      refine (weights_ok _ _ _ _ X1.out hp hl JX.out).mono ?_
      rintro e u1 ⟨g1, rfl, _, h1, hB⟩
      have W2 : Hid (Below w.heap.size w u1) := below_then W1.out hB
      have T2 : Hid (Lst .i32 u1 a2 (Tb.shift x a1)) := T1.out.keep hB
      have P2 : Hid (Lst .i64 u1 (some ⟨g1, 0, none⟩) (Tb.weights x)) := h1
      clear hB h1 W1 T1 X1
      go_wp2_with fail
      refine (weights_okm _ _ _ _ _ EM.out.symm T2.out (by rw [EM.out]; omega) (by rw [EM.out]; omega) I1.out).mono ?_
      rintro e u2 ⟨g2, rfl, _, h1, hB⟩
      have W3 : Hid (Below w.heap.size w u2) := below_then W2.out hB
      have P3 : Hid (Lst .i64 u2 (some ⟨g1, 0, none⟩) (Tb.weights x)) := P2.out.keep hB
      have R3 : Hid (Lst .i64 u2 (some ⟨g2, 0, none⟩) (Tb.weights x)) := by show Lst _ _ _ _; rw [← EW.out]; exact h1
      clear hB h1 W2 T2 P2
      go_wp2_with fail
      refine (sameI_anym _ _ _ _ _ _ _ _ _ EL.out.symm EL.out.symm P3.out R3.out (by rw [EL.out]; omega) rfl).mono ?_
      rintro e u3 ⟨rfl, hB⟩
      have W4 : Hid (Below w.heap.size w u3) := below_then W3.out hB
      clear hB W3 P3 R3
      go_wp2_with (go_at_call 8; refine (sfAwake_any _).mono ?_; rintro e wa ⟨rfl, hb⟩)
      go_ret
      exact ⟨rfl, below_then W4.out hb⟩

set_option maxRecDepth 100000 in
theorem lifted (os : Os) (started : os.Started) (H : Type) (enc : TypeId × Value → H) :
    ReturnsInHanded {} Try.checked os 5 .any (Rows.softMovesSpec.pre6 enc Try.prog Try.f5 Rows.softMovesRow.domain false) (Rows.softMovesSpec.post enc Try.prog Try.f5 false true false false) := by
  refine returnsInHanded_of_change (C := Try.checked) own started (by kernel_rfl) Try.func5
    (ChangeSpec.witness6 (enc := enc) (C := Try.checked) false ⟨#[], #[.slice none 0 0, .int .i32 0], []⟩ 8 (by kernel_rfl) (by kernel_rfl) (by kernel_rfl) (by kernel_rfl)) ?_
  intro W base args ds gs before hval0 hW hcnd _
  have hval : ∀ (j : Nat) t v, Try.f5.params[j]? = some t → args[j]? = some v → Value.okWide Try.prog W .any base t v := hval0
  have hW' := hW
  obtain ⟨p, q, hA0, hV, rfl, hfz, hnd⟩ := hW
  have hA : DataW.TrodAll enc Try.prog W 0 (fun _ => true) true Try.f5.params.toList args.toList ds p := hA0
  rw [Try.params5] at hA hval
  obtain ⟨v0, vs0, d0, ds0, p0, q0, hargs, rfl, rfl, h0, r0⟩ := trodAll_cons hA
  obtain ⟨v1, vs1, d1, ds1, p1, q1, rfl, rfl, rfl, h1, r1⟩ := trodAll_cons r0
  obtain ⟨rfl, rfl, rfl⟩ := trodAll_nil r1
  obtain rfl : args = #[v0, v1] := by cases args; simp_all
  obtain ⟨rfl, rfl⟩ := trodVars_none hV
  obtain ⟨a0, len0, cap0, rfl⟩ := okWide_slice Try.underlying22 (hval 0 22 v0 rfl rfl)
  have k0 := h0
  have lt0 : ∀ x ∈ p0, x.block < W.heap.size := by obtain ⟨m, hm⟩ := k0; exact DataW.trod_lt m _ _ _ hm
  obtain ⟨z0, w0⟩ : ∃ zs, IsRow .i32 W a0 len0 cap0 zs := by
    obtain ⟨fuel, hf⟩ := h0
    rcases open_ints Try.underlying22 Try.underlying21 (by kernel_rfl) hf with ⟨hcs, _⟩ | ⟨x, l, c, zs, hcs, _, hl, hm, hz, _, hcell, hwz⟩
    · simp [Value.cells] at hcs
      obtain ⟨rfl, rfl, rfl⟩ := hcs
      exact ⟨[], .inl ⟨rfl, rfl, rfl, rfl⟩⟩
    · simp [Value.cells] at hcs
      obtain ⟨rfl, rfl, rfl⟩ := hcs
      exact ⟨zs, .inr ⟨_, rfl, hl, hm, by simpa using hz, hcell, hwz⟩⟩
  obtain ⟨a1, rfl, rfl, rfl, w1⟩ := open_int Try.underlying21 (hval 1 21 v1 rfl rfl) h1
  clear hA0 hval0
  refine (walk a0 len0 cap0 z0 a1 W w0 w1).mono fun e W' ⟨he, bel⟩ => ?_
  subst he
  exact ⟨_, rfl, _, _, _, [], _, [], hW', trodAll_mk1 (shut_bool Try.underlying4 _), (trodAll_cons_mk (Below.trod laidOut (by kernel_rfl) (of_decide_eq_true (by kernel_rfl)) k0 bel lt0) (trodAll_cons_mk (shut_int Try.underlying21 w1) trodAll_mk0)), rfl, bel.frame _, fun h => by cases h⟩

theorem over : Rows.softMovesRow.holds Try.pinned (OpenSpec.ofChange Rows.softMovesSpec) :=
  OpenClaim.holds_of_wide 5 Try.f5 rfl rfl rfl rfl rfl rfl rfl ⟨rfl, rfl, rfl, rfl, rfl⟩ rfl rfl rfl rfl rfl (by kernel_rfl) Try.func5 (by kernel_rfl)
    (of_decide_eq_true (by kernel_rfl)) (by unfold Func.isWrapper; first | (rw [if_pos (by decide +kernel)]; kernel_rfl) | (rw [if_neg (by decide +kernel)]; exact ⟨rfl, rfl⟩))
    (fun os started H enc _ => lifted os started H enc)

theorem proved : Rows.SoftMovesSaid := over
end Go.Proofs.Ytnpoaalopppanaa.softMoves

namespace Go.Proofs.Ytnpoaalopppanaa
theorem softMoves_holds : Rows.SoftMovesSaid := softMoves.proved
#print axioms softMoves_holds
end Go.Proofs.Ytnpoaalopppanaa
