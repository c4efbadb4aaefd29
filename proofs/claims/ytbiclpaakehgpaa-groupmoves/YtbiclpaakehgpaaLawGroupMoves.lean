/- Numbers that are all greater by one number have the same codes and scale, and a zero that is greater by it: GroupMoves answers true for every input. -/
import Derived.Test.YtbiclpaakehgpaaRows
import Derived.Test.YtbiclpaakehgpaaGpNames
import Derived.WalkKit
import Derived.ProofKit
import Derived.OpenShut
import Derived.ShutString
import Derived.ChangeOld
import Derived.Below
namespace Go.Proofs.Ytbiclpaakehgpaa.groupMoves
open Go.ChangeShapes Go.WideShapes Go.ChangeAt Go.RowKit
open Go.ChangeMaps (open_string shut_string)
set_option linter.unusedVariables false

theorem own : ownKnob Try.prog.godebug = none := by kernel_rfl
theorem laidOut : laidOutB Try.prog = true := by kernel_rfl

/-- WHAT THE WALK IS TOLD OF A SLICE OF INTEGERS THAT CAME IN: it is nil; or it leads to a row of 'cap' cells, the numbers 'zs' (the first 'len' are its elements, the rest its spare room), each fitting its kind. -/
def IsRow (k : IntKind) (w : World) (a : Option Addr) (len cap : Nat) (zs : List Int) : Prop :=
  (a = none ∧ len = 0 ∧ cap = 0 ∧ zs = []) ∨
  ∃ x, a = some x ∧ len ≤ cap ∧ cap ≤ maxLen ∧ zs.length = cap ∧ (∀ i, i < zs.length → w.cell? (x.add i) = some (.int k (zs.getD i 0))) ∧ ∀ n ∈ zs, (Lit.int k n).wf = true

set_option maxRecDepth 100000 in
set_option maxHeartbeats 1600000 in
theorem walk (a0 : Option Addr) (len0 cap0 : Nat) (z0 : List Int) (a1 : Int) (a2 : Int) (w : World) (w0 : IsRow .i32 w a0 len0 cap0 z0) (w1 : (Lit.int .i32 a1).wf = true) (w2 : (Lit.int .i64 a2).wf = true) :
    Calls Try.prog 7 #[.slice a0 len0 cap0, .int .i32 a1, .int .i64 a2] w fun e w' => e = .returned (.bool true) ∧ Below w.heap.size w w' := by
  -- depth
  obtain ⟨x, hx, LX, IX, MX, CX, DX, FX⟩ := row_open w0
  subst hx
  have bb := bounds_i32 w1
  have HX : Hid (Lst .i32 w a0 x) := LX
  have HI : Hid (Ls.In32 x) := IX
  have NX : Hid (x.length ≤ maxLen) := MX
  clear w0 w1 w2 LX IX MX CX DX FX
  by_cases hm : 256 < x.length
  · go_enter Try.func7, Try.ntmps7
    go_wp2_with (go_at_call 9; refine (gpAwake_any _).mono ?_; rintro e wa ⟨rfl, hba⟩)
    go_ret
    exact ⟨rfl, hba⟩
  rcases Gp.many_or x.length a2 with hbad | ⟨m, s, rfl, hst, h0, hl, hok⟩
  · obtain ⟨f, ef⟩ : ∃ f, Gp.many x.length a2 = f := ⟨_, rfl⟩
    rw [ef] at hbad
    have g0 : (f != 0) = true := by simp [hbad]
    have EF : Hid (Gp.many x.length a2 = f) := ef
    clear ef hbad HX HI
    go_enter Try.func7, Try.ntmps7
    go_wp2_with (first
      | (go_at_call 11; refine (refMany_any _ _ f EF.out NX.out _).mono ?_; rintro e w' ⟨rfl, hw⟩; cases hw.symm; clear hw)
      | (go_at_call 9; refine (gpAwake_any _).mono ?_; rintro e wa ⟨rfl, hba⟩))
    go_ret
    exact ⟨rfl, hba⟩
  have OK : Hid (Gp.many x.length (m : Int) = 0) := hok
  have HS : Hid (Gp.St m s) := hst
  have bs := hst.bd
  clear hok hst
  by_cases hy1 : a1 < -536870912
  · go_enter Try.func7, Try.ntmps7
    go_wp2_with (first
      | (go_at_call 11; refine (refMany_any _ _ 0 OK.out NX.out _).mono ?_; rintro e w' ⟨rfl, hw⟩; cases hw.symm; clear hw)
      | (go_at_call 9; refine (gpAwake_any _).mono ?_; rintro e wa ⟨rfl, hba⟩))
    go_ret
    exact ⟨rfl, hba⟩
  by_cases hy2 : 536870912 < a1
  · go_enter Try.func7, Try.ntmps7
    go_wp2_with (first
      | (go_at_call 11; refine (refMany_any _ _ 0 OK.out NX.out _).mono ?_; rintro e w' ⟨rfl, hw⟩; cases hw.symm; clear hw)
      | (go_at_call 9; refine (gpAwake_any _).mono ?_; rintro e wa ⟨rfl, hba⟩))
    go_ret
    exact ⟨rfl, hba⟩
  have t1 : decide (256 < (x.length : Int)) = false := decide_eq_false (by omega)
  have t2 : decide (a1 < -536870912) = false := decide_eq_false hy1
  have t3 : decide (536870912 < a1) = false := decide_eq_false hy2
  have yb1 : -536870912 ≤ a1 := by omega
  have yb2 : a1 ≤ 536870912 := by omega
  clear hy1 hy2 hm
  obtain ⟨i0, hi0, hi1, hi2, hi3⟩ := info_parts Try.infoInt32
  go_enter Try.func7, Try.ntmps7
  go_wp2_with (go_at_call 11; refine (refMany_any _ _ 0 OK.out NX.out _).mono ?_; rintro e w' ⟨rfl, hw⟩; cases hw.symm; clear hw)
  go_loopw [7, 35] (fun v i wr => ∃ k : Nat, k ≤ x.length ∧ i = .int .i64 k ∧ wr.ownsRow w.heap.size 21 1 v k ((Ls.gen k fun j => Ls.nth x j + a1).map (Value.int .i32)) ∧ Below w.heap.size w wr ∧ ∀ j, j < k → -536870912 ≤ Ls.nth x j ∧ Ls.nth x j ≤ 536870912) (fun _ i _ => x.length - (intOf i).toNat)
  case atStart => exact ⟨0, Nat.zero_le _, rfl, World.ownsRow_nil _ _ _ _, Below.refl _ _, fun j hj => by omega⟩
  case round =>
    obtain ⟨k, hk, rfl, hown, hbel, hall⟩ := hrel
    obtain ⟨va, vc, rfl⟩ := own_slice hown
    have HL : Hid (∀ j, j < k → -536870912 ≤ Ls.nth x j ∧ Ls.nth x j ≤ 536870912) := hall
    have HO : Hid (wr.ownsRow w.heap.size 21 1 (.slice va k vc) k ((Ls.gen k fun j => Ls.nth x j + a1).map (Value.int .i32))) := hown
    have HB : Hid (Below w.heap.size w wr) := hbel
    have hsz := hbel.size
    by_cases hlt : k < x.length
    · obtain ⟨b1, o1, rfl, hc1⟩ := (HX.out.keep hbel).get hlt
      have hck := hc1 k hlt
      clear hc1 hall hown hbel
      by_cases c1 : Ls.nth x k < -536870912
      · go_wp2_with (go_at_call 9; refine (gpAwake_any _).mono ?_; rintro e wa ⟨rfl, hba⟩; have BA : Hid (Below w.heap.size w wa) := below_then HB.out hba; clear hba)
        go_ret
        exact ⟨rfl, BA.out⟩
      · by_cases c2 : 536870912 < Ls.nth x k
        · go_wp2_with (go_at_call 9; refine (gpAwake_any _).mono ?_; rintro e wa ⟨rfl, hba⟩; have BA : Hid (Below w.heap.size w wa) := below_then HB.out hba; clear hba)
          go_ret
          exact ⟨rfl, BA.out⟩
        · go_wp2_with (at_builtin; refine wpList_append_lies _ rfl _ _ _ rfl w.heap.size 21 i0 _ 1 4 Try.underlying22 hi0 hi1 hi2 hi3 rfl (by omega) _ k _ (by rfl) (HO.out.alloc _) ⟨wr.heap.size, 0, none⟩ 1 1 [.int .i32 (Ls.nth x k + a1)] (by rfl) (by rfl) (World.news_of_block (cs := #[.int .i32 (Ls.nth x k + a1)]) (t := 21) (fr := (0, 0)) (heap_alloc_new wr _)) (by simp [Value.oneCell']) (by omega) (by unfold maxLen; omega) (by omega) (by simp; omega) (wr.heap.size + 1) (by simp) ?_; intro gg cap w1 hown1 hgrow hat hlt1; have B1 : Hid (Below w.heap.size w w1) := (HB.out.alloc (by omega) _).grown hgrow (by simp; omega) (fun j hj => (HO.out.lt j hj).1); have O1 : Hid (w1.ownsRow w.heap.size 21 1 (.slice (some ⟨gg, 0, none⟩) (k + 1) cap) (k + 1) ((Ls.gen k fun j => Ls.nth x j + a1).map (Value.int .i32) ++ [.int .i32 (Ls.nth x k + a1)])) := hown1; clear hown1 hgrow hat)
          go_roundw
          case rel =>
            refine ⟨k + 1, by omega, by go_num, gen_snoc O1.out rfl, B1.out, fun j hj => ?_⟩
            by_cases e : j = k
            · subst e; omega
            · exact HL.out j (by omega)
          case measure => simp [intOf]; omega
    · have e : k = x.length := by omega
      subst e
      clear hall hown hbel
      obtain ⟨y, ey⟩ : ∃ y, (Ls.gen x.length fun j => Ls.nth x j + a1) = y := ⟨_, rfl⟩
      have hyl : y.length = x.length := by rw [← ey]; exact Ls.gen_length _ _
      have hyn : ∀ i, i < x.length → Ls.nth y i = Ls.nth x i + a1 := fun i hi => by rw [← ey]; exact Ls.nth_gen hi
      have hyi : Ls.In32 y := Ls.in32_mk fun i hi => by
        rw [hyn i (by omega)]
        have := HL.out i (by omega)
        omega
      obtain ⟨z, ez⟩ : ∃ z, Gp.low x = z := ⟨_, rfl⟩
      obtain ⟨sc, es⟩ : ∃ sc, Gp.scale s x = sc := ⟨_, rfl⟩
      have ez2 : Gp.low y = z + a1 := by rw [← ez]; exact Gp.low_shift h0 hyl hyn
      have es2 : Gp.scale s y = sc := by rw [← es]; exact Gp.scale_shift h0 hyl hyn
      have ec : Gp.codes (z + a1) sc y = Gp.codes z sc x := by
        have := Gp.codes_shift (s := s) h0 hyl hyn
        rw [ez2, es2, ez, es] at this
        exact this
      have zb : -536870912 ≤ z ∧ z ≤ 536870912 := by
        obtain ⟨i, hi, e⟩ := Gp.low_is h0
        have := HL.out i hi
        rw [← ez, ← e]
        exact this
      obtain ⟨a', c', h1, hLY⟩ := lst_of_ownm (l := y) (by rw [← ey]; exact HO.out) hyl.symm
      cases h1
      have HY : Hid (Lst .i32 wr va y) := hLY
      have IY : Hid (Ls.In32 y) := hyi
      have EL : Hid (y.length = x.length) := hyl
      have EZ : Hid (Gp.low x = z) := ez
      have ES : Hid (Gp.scale s x = sc) := es
      have EZ2 : Hid (Gp.low y = z + a1) := ez2
      have ES2 : Hid (Gp.scale s y = sc) := es2
      have EC : Hid (Gp.codes (z + a1) sc y = Gp.codes z sc x) := ec
      have CL : Hid ((Gp.codes z sc x).length = x.length) := Gp.codes_length _ _ _
      clear ey hyl hyn hyi ez es ez2 es2 ec hLY HO HL
      go_wp2_with fail
      refine (of_ok _ _ m s x _ (HX.out.keep HB.out) HI.out HS.out h0 hl z sc EZ.out ES.out).mono ?_
      rintro e u1 ⟨g1, rfl, hg1, hL1, hb1⟩
      have B1 : Hid (Below w.heap.size w u1) := below_then HB.out hb1
      have Y1 : Hid (Lst .i32 u1 va y) := HY.out.keep hb1
      have L1 : Hid (Lst .i64 u1 (some ⟨g1, 0, none⟩) (Gp.codes z sc x)) := hL1
      have g1lt : g1 < u1.heap.size := by
        have := hL1.cell0 (i := 0) (by rw [CL.out]; exact h0)
        exact World.block_lt_of_cell? u1 _ this
      clear hg1 hL1 hb1 HY HB
      go_wp2_with fail
      refine (of_okm _ _ _ m s y _ EL.out.symm (Y1.out.keep (box_over _ _)) IY.out HS.out h0 hl (z + a1) sc EZ2.out ES2.out).mono ?_
      rintro e u2 ⟨g2, rfl, hg2, hL2, hb2⟩
      rw [EC.out] at hL2
      have hg2' : u1.heap.size < g2 := by have := hg2; simp at this; omega
      have G2 : Hid (Grp u2 27 u1.heap.size z sc (.slice (some ⟨g1, 0, none⟩) x.length x.length)) := (grp_new _ _ _ _ _).keep hb2
      have B2 : Hid (Below w.heap.size w u2) := below_then (below_then B1.out (box_over _ _)) hb2
      have L2 : Hid (Lst .i64 u2 (some ⟨g1, 0, none⟩) (Gp.codes z sc x)) := (L1.out.keep (box_over _ _)).keep hb2
      have M2 : Hid (Lst .i64 u2 (some ⟨g2, 0, none⟩) (Gp.codes z sc x)) := hL2
      have l2 := G2.out.lt
      have l1 := B1.out.size
      have ne1 : ¬ u1.heap.size = u2.heap.size := by omega
      have ne2 : ¬ u2.heap.size = u1.heap.size := by omega
      obtain ⟨d0, d1, d2⟩ := G2.out.cells
      have f0 : u2.frozen? ⟨u1.heap.size, 0, none⟩ = false := World.rowIs.frozen G2.out 0
      have LS : Hid (∀ v t c, Lst .i64 ((u2.setCell ⟨u1.heap.size, 0, none⟩ v).alloc (.cells c t)) (some ⟨g1, 0, none⟩) (Gp.codes z sc x) ∧ Lst .i64 ((u2.setCell ⟨u1.heap.size, 0, none⟩ v).alloc (.cells c t)) (some ⟨g2, 0, none⟩) (Gp.codes z sc x)) := fun v t c =>
        ⟨(L2.out.set_other (by intro x hx; cases hx; simp; omega) v).keep (box_over _ _), (M2.out.set_other (by intro x hx; cases hx; simp; omega) v).keep (box_over _ _)⟩
      have BS : Hid (∀ v t c, Below w.heap.size w ((u2.setCell ⟨u1.heap.size, 0, none⟩ v).alloc (.cells c t))) := fun v t c => below_then (B2.out.setCell l1 v) (box_over _ _)
      clear hL2 hb2 B1 Y1 L1 G2 hg2 hg2' B2 L2 M2
      go_wp2_with fail
      refine (equal_anym _ _ _ _ _ _ _ _ _ _ (Gp.codes z sc x) (Gp.codes z sc x) _ CL.out.symm CL.out.symm (LS.out _ _ _).1 (LS.out _ _ _).2 (by rw [CL.out]; exact NX.out) true (Gp.eqG_self _ _ _)).mono ?_
      rintro e u3 ⟨rfl, hb3⟩
      have B3 : Hid (Below w.heap.size w u3) := below_then (BS.out _ _ _) hb3
      clear hb3
      go_wp2_with (go_at_call 9; refine (gpAwake_any _).mono ?_; rintro e wa ⟨rfl, hba⟩; have BA : Hid (Below w.heap.size w wa) := below_then B3.out hba; clear hba)
      go_ret
      exact ⟨rfl, BA.out⟩

set_option maxRecDepth 100000 in
theorem lifted (os : Os) (started : os.Started) (H : Type) (enc : TypeId × Value → H) :
    ReturnsInHanded {} Try.checked os 7 .any (Rows.groupMovesSpec.pre6 enc Try.prog Try.f7 Rows.groupMovesRow.domain false) (Rows.groupMovesSpec.post enc Try.prog Try.f7 false true false false) := by
  refine returnsInHanded_of_change (C := Try.checked) own started (by kernel_rfl) Try.func7
    (ChangeSpec.witness6 (enc := enc) (C := Try.checked) false ⟨#[], #[.slice none 0 0, .int .i32 0, .int .i64 0], []⟩ 8 (by kernel_rfl) (by kernel_rfl) (by kernel_rfl) (by kernel_rfl)) ?_
  intro W base args ds gs before hval0 hW hcnd _
  have hval : ∀ (j : Nat) t v, Try.f7.params[j]? = some t → args[j]? = some v → Value.okWide Try.prog W .any base t v := hval0
  have hW' := hW
  obtain ⟨p, q, hA0, hV, rfl, hfz, hnd⟩ := hW
  have hA : DataW.TrodAll enc Try.prog W 0 (fun _ => true) true Try.f7.params.toList args.toList ds p := hA0
  rw [Try.params7] at hA hval
  obtain ⟨v0, vs0, d0, ds0, p0, q0, hargs, rfl, rfl, h0, r0⟩ := trodAll_cons hA
  obtain ⟨v1, vs1, d1, ds1, p1, q1, rfl, rfl, rfl, h1, r1⟩ := trodAll_cons r0
  obtain ⟨v2, vs2, d2, ds2, p2, q2, rfl, rfl, rfl, h2, r2⟩ := trodAll_cons r1
  obtain ⟨rfl, rfl, rfl⟩ := trodAll_nil r2
  obtain rfl : args = #[v0, v1, v2] := by cases args; simp_all
  obtain ⟨rfl, rfl⟩ := trodVars_none hV
  obtain ⟨a0, len0, cap0, rfl⟩ := okWide_slice Try.underlying22 (hval 0 22 v0 rfl rfl)
  have k0 := h0
  have lt0 : ∀ x ∈ p0, x.block < W.heap.size := by obtain ⟨m, hm⟩ := k0; exact DataW.trod_lt m _ _ _ hm
  obtain ⟨z0, w0⟩ : ∃ zs, IsRow .i32 W a0 len0 cap0 zs := by
    obtain ⟨fuel, hf⟩ := h0
    rcases open_ints Try.underlying22 Try.underlying21 (by kernel_rfl) hf with ⟨hcs, _⟩ | ⟨x, l, c, zs, hcs, _, hl, hm, hz, _, hcell, hwz⟩
    · simp [Value.cells] at hcs
      obtain ⟨rfl, rfl, rfl⟩ := hcs
      exact ⟨[], .inl ⟨rfl, rfl, rfl, rfl⟩⟩
    · simp [Value.cells] at hcs
      obtain ⟨rfl, rfl, rfl⟩ := hcs
      exact ⟨zs, .inr ⟨_, rfl, hl, hm, by simpa using hz, hcell, hwz⟩⟩
  obtain ⟨a1, rfl, rfl, rfl, w1⟩ := open_int Try.underlying21 (hval 1 21 v1 rfl rfl) h1
  obtain ⟨a2, rfl, rfl, rfl, w2⟩ := open_int Try.underlying3 (hval 2 3 v2 rfl rfl) h2
  clear hA0 hval0
  refine (walk a0 len0 cap0 z0 a1 a2 W w0 w1 w2).mono fun e W' ⟨he, bel⟩ => ?_
  subst he
  exact ⟨_, rfl, _, _, _, [], _, [], hW', trodAll_mk1 (shut_bool Try.underlying4 _), (trodAll_cons_mk (Below.trod laidOut (by kernel_rfl) (of_decide_eq_true (by kernel_rfl)) k0 bel lt0) (trodAll_cons_mk (shut_int Try.underlying21 w1) (trodAll_cons_mk (shut_int Try.underlying3 w2) trodAll_mk0))), rfl, bel.frame _, fun h => by cases h⟩

theorem over : Rows.groupMovesRow.holds Try.pinned (OpenSpec.ofChange Rows.groupMovesSpec) :=
  OpenClaim.holds_of_wide 7 Try.f7 rfl rfl rfl rfl rfl rfl rfl ⟨rfl, rfl, rfl, rfl, rfl⟩ rfl rfl rfl rfl rfl (by kernel_rfl) Try.func7 (by kernel_rfl)
    (of_decide_eq_true (by kernel_rfl)) (by unfold Func.isWrapper; first | (rw [if_pos (by decide +kernel)]; kernel_rfl) | (rw [if_neg (by decide +kernel)]; exact ⟨rfl, rfl⟩))
    (fun os started H enc _ => lifted os started H enc)

theorem proved : Rows.GroupMovesSaid := over
end Go.Proofs.Ytbiclpaakehgpaa.groupMoves

namespace Go.Proofs.Ytbiclpaakehgpaa
theorem groupMoves_holds : Rows.GroupMovesSaid := groupMoves.proved
#print axioms groupMoves_holds
end Go.Proofs.Ytbiclpaakehgpaa
