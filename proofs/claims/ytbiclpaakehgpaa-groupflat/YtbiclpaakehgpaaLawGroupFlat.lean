/- Numbers that are all one are meant as they are, with any bits; of two numbers the lesser one always is: GroupFlat answers true for every input. -/
import Derived.Test.YtbiclpaakehgpaaRows
import Derived.Test.YtbiclpaakehgpaaGpNames
import Derived.Test.YtbiclpaakehgpaaGpFlat
import Derived.Deep.RegionHeld3
import Derived.WalkKit
import Derived.ProofKit
import Derived.OpenShut
import Derived.ShutString
import Derived.ChangeOld
import Derived.Below
namespace Go.Proofs.Ytbiclpaakehgpaa.groupFlat
open Go.ChangeShapes Go.WideShapes Go.ChangeAt Go.RowKit
set_option linter.unusedVariables false

theorem own : ownKnob Try.prog.godebug = none := by kernel_rfl
theorem laidOut : laidOutB Try.prog = true := by kernel_rfl

/-- What the walk is told of a slice of integers that came in. -/
def IsRow (k : IntKind) (w : World) (a : Option Addr) (len cap : Nat) (zs : List Int) : Prop :=
  (a = none ∧ len = 0 ∧ cap = 0 ∧ zs = []) ∨
  ∃ x, a = some x ∧ len ≤ cap ∧ cap ≤ maxLen ∧ zs.length = cap ∧ (∀ i, i < zs.length → w.cell? (x.add i) = some (.int k (zs.getD i 0))) ∧ ∀ n ∈ zs, (Lit.int k n).wf = true

set_option maxRecDepth 100000 in
set_option maxHeartbeats 3200000 in
theorem walk (a0 : Int) (a1 : Int) (a2 : Int) (w : World) (w0 : (Lit.int .i32 a0).wf = true) (w1 : (Lit.int .i32 a1).wf = true) (w2 : (Lit.int .i64 a2).wf = true) :
    Calls Try.prog 6 #[.int .i32 a0, .int .i32 a1, .int .i64 a2] w fun e w' => e = .returned (.bool true) ∧ Below w.heap.size w w' := by
  -- depth
  -- frame
  have vb := bounds_i32 w0
  have wb := bounds_i32 w1
  have nb := bounds_i64 w2
  clear w0 w1 w2
  by_cases hn1 : a2 < 1
  · go_enter Try.func6, Try.ntmps6
    go_wp2_with (go_at_call 9; refine (gpAwake_any _).mono ?_; rintro e wa ⟨rfl, hba⟩)
    go_ret
    exact ⟨rfl, hba⟩
  by_cases hn2 : 256 < a2
  · go_enter Try.func6, Try.ntmps6
    go_wp2_with (go_at_call 9; refine (gpAwake_any _).mono ?_; rintro e wa ⟨rfl, hba⟩)
    go_ret
    exact ⟨rfl, hba⟩
  obtain ⟨N, rfl⟩ := Int.eq_ofNat_of_zero_le (show 0 ≤ a2 by omega)
  have h0 : 0 < N := by omega
  have hl : N ≤ 256 := by omega
  have t1 : decide ((N : Int) < 1) = false := decide_eq_false hn1
  have t2 : decide (256 < (N : Int)) = false := decide_eq_false hn2
  clear hn1 hn2 nb
  obtain ⟨i0, hi0, hi1, hi2, hi3⟩ := info_parts Try.infoInt32
  go_enter Try.func6, Try.ntmps6
  go_wp2
  go_loopw [7, 23] (fun v i wr => ∃ k : Nat, k ≤ N ∧ i = .int .i64 k ∧ wr.ownsRow w.heap.size 21 1 v k ((Ls.gen k fun _ => a0).map (Value.int .i32)) ∧ Below w.heap.size w wr) (fun _ i _ => N - (intOf i).toNat)
  case atStart => exact ⟨0, Nat.zero_le _, rfl, World.ownsRow_nil _ _ _ _, Below.refl _ _⟩
  case round =>
    obtain ⟨k, hk, rfl, hown, hbel⟩ := hrel
    obtain ⟨va, vc, rfl⟩ := own_slice hown
    have HO : Hid (wr.ownsRow w.heap.size 21 1 (.slice va k vc) k ((Ls.gen k fun _ => a0).map (Value.int .i32))) := hown
    have HB : Hid (Below w.heap.size w wr) := hbel
    have hsz := hbel.size
    clear hown hbel
    by_cases hlt : k < N
    · go_wp2_with (at_builtin; refine wpList_append_lies _ rfl _ _ _ rfl w.heap.size 21 i0 _ 1 4 Try.underlying22 hi0 hi1 hi2 hi3 rfl (by omega) _ k _ (by rfl) (HO.out.alloc _) ⟨wr.heap.size, 0, none⟩ 1 1 [.int .i32 a0] (by rfl) (by rfl) (World.news_of_block (cs := #[.int .i32 a0]) (t := 21) (fr := (0, 0)) (heap_alloc_new wr _)) (by simp [Value.oneCell']) (by omega) (by unfold maxLen; omega) (by omega) (by simp; omega) (wr.heap.size + 1) (by simp) ?_; intro gg cap w1 hown1 hgrow hat hlt1; have B1 : Hid (Below w.heap.size w w1) := (HB.out.alloc (by omega) _).grown hgrow (by simp; omega) (fun j hj => (HO.out.lt j hj).1); have O1 : Hid (w1.ownsRow w.heap.size 21 1 (.slice (some ⟨gg, 0, none⟩) (k + 1) cap) (k + 1) ((Ls.gen k fun _ => a0).map (Value.int .i32) ++ [.int .i32 a0])) := hown1; clear hown1 hgrow hat)
      go_roundw
      case rel => exact ⟨k + 1, by omega, by go_num, gen_snoc O1.out rfl, B1.out⟩
      case measure => simp [intOf]; omega
    · have e : k = N := by omega
      subst e
      obtain ⟨x, ex⟩ : ∃ x, (Ls.gen k fun _ => a0) = x := ⟨_, rfl⟩
      have hxl : x.length = k := by rw [← ex]; exact Ls.gen_length _ _
      have hxn : ∀ i, i < x.length → Ls.nth x i = a0 := fun i hi => by rw [← ex]; exact Ls.nth_gen (by omega)
      have hxi : Ls.In32 x := Ls.in32_mk fun i hi => by rw [hxn i hi]; exact vb
      obtain ⟨a', c', h1, hLX⟩ := lst_of_ownm (l := x) (by rw [← ex]; exact HO.out) hxl.symm
      cases h1
      have EL : Hid (x.length = k) := hxl
      have IX : Hid (Ls.In32 x) := hxi
      have EZ : Hid (Gp.low x = a0) := Gp.flat_low (by omega) hxn
      have ES : Hid (∀ s : Int, Gp.scale s x = 0) := fun s => Gp.flat_scale (by omega) hxn
      have EM : Hid (Gp.means a0 0 (Gp.codes a0 0 x) = x) := Gp.flat_means vb.1 vb.2 hxn
      have CL : Hid ((Gp.codes a0 0 x).length = k) := by show _ = _; rw [Gp.codes_length, EL.out]
      have FT : Hid (Gp.fits 255 (Gp.codes a0 0 x) = true) := Gp.fits_yes fun i hi => by
        rw [Gp.codes_length] at hi
        rw [Gp.codes_none rfl hi]
        omega
      have LX : Hid (Lst .i32 wr va x) := hLX
      clear ex hxl hxn hxi hLX HO hlt hk
      go_wp2
      obtain ⟨u, hu⟩ : ∃ u, wr.alloc (.cells #[.int .i64 2, .int .i64 4, .int .i64 8] 3) = u := ⟨_, rfl⟩
      have B1 : Hid (Below w.heap.size w u) := by rw [← hu]; exact below_then HB.out (box_over _ _)
      have X1 : Hid (Lst .i32 u va x) := by rw [← hu]; exact LX.out.keep (box_over _ _)
      have T1 : Hid (Lst .i64 u (some ⟨wr.heap.size, 0, none⟩) [2, 4, 8]) := by rw [← hu]; exact lst_new wr [2, 4, 8]
      rw [hu]
      obtain ⟨tb, etb⟩ : ∃ tb, wr.heap.size = tb := ⟨_, rfl⟩
      rw [etb] at T1
      rw [etb]
      clear hu HB LX hsz etb
      go_loopw [32] (fun i wr' => ∃ j : Nat, j ≤ 3 ∧ i = .int .i64 j ∧ Below u.heap.size u wr') (fun i _ => 3 - (intOf i).toNat)
      case atStart => exact ⟨0, by omega, rfl, Below.refl _ _⟩
      case round =>
        obtain ⟨j, hj, rfl, hbel⟩ := hrel
        have HB : Hid (Below u.heap.size u wr) := hbel
        clear hbel
        by_cases hlt : j < 3
        · obtain ⟨b, s, eb, hst⟩ := Gp.three j hlt
          have hck : wr.cell? ⟨tb, j, none⟩ = some (.int .i64 (b : Int)) := by
            rw [← eb]
            exact (T1.out.keep HB.out).cell0 (i := j) hlt
          have HS : Hid (Gp.St b s) := hst
          have bs := hst.bd
          clear eb hst
          obtain ⟨z, ez⟩ : ∃ z, Gp.low [a0, a1] = z := ⟨_, rfl⟩
          obtain ⟨sc, es⟩ : ∃ sc, Gp.scale (s : Int) [a0, a1] = sc := ⟨_, rfl⟩
          obtain ⟨m0, e0⟩ : ∃ m0, Ls.nth (Gp.means z sc (Gp.codes z sc [a0, a1])) 0 = m0 := ⟨_, rfl⟩
          obtain ⟨m1, e1⟩ : ∃ m1, Ls.nth (Gp.means z sc (Gp.codes z sc [a0, a1])) 1 = m1 := ⟨_, rfl⟩
          have i2 := Gp.two_in vb.1 vb.2 wb.1 wb.2
          have sb := Gp.scale_bd (s := (s : Int)) i2 (by omega)
          rw [es] at sb
          have zb : -2147483648 ≤ z ∧ z ≤ 2147483647 := by rw [← ez]; exact Gp.lowN_in i2 _
          have hmin := Gp.two_min (s := (s : Int)) vb.1 vb.2 wb.1 wb.2 (by omega) ez es e0 e1
          have hrt := Gp.grouped_right (s := (s : Int)) i2 (by omega)
          rw [ez, es] at hrt
          have F2 : Hid (Gp.fits 255 (Gp.codes z sc [a0, a1]) = true) := by
            have := (Gp.right_zero hrt).2.2
            exact Gp.fits_yes fun i hi => by have := Gp.fits_all this i hi; omega
          have C2 : Hid ((Gp.codes z sc [a0, a1]).length = 2) := Gp.codes_length _ _ _
          have M2 : Hid ((Gp.means z sc (Gp.codes z sc [a0, a1])).length = 2) := by show _ = _; rw [Gp.means_length, C2.out]
          have EZ2 : Hid (Gp.low [a0, a1] = z) := ez
          have ES2 : Hid (Gp.scale (s : Int) [a0, a1] = sc) := es
          have E0 : Hid (Ls.nth (Gp.means z sc (Gp.codes z sc [a0, a1])) 0 = m0) := e0
          have E1 : Hid (Ls.nth (Gp.means z sc (Gp.codes z sc [a0, a1])) 1 = m1) := e1
          have I2 : Hid (Ls.In32 [a0, a1]) := i2
          have HM : Hid ((if m1 < m0 then m1 else m0) = z ∧ (if a1 < a0 then a1 else a0) = z) := hmin
          clear ez es e0 e1 i2 hmin hrt
          go_wp2_with fail
          refine (of_okm _ _ _ b s x _ EL.out.symm (X1.out.keep HB.out) IX.out HS.out h0 hl a0 0 EZ.out (ES.out _)).mono ?_
          rintro e u1 ⟨g1, rfl, hg1, hL1, hb1⟩
          have P1 : Hid (Below u.heap.size u u1) := below_then HB.out hb1
          have L1 : Hid (Lst .i64 u1 (some ⟨g1, 0, none⟩) (Gp.codes a0 0 x)) := hL1
          clear hg1 hL1 hb1 hck
          go_wp2_with fail
          obtain ⟨v1, hv1⟩ : ∃ v1, (u1.alloc (.cells #[.int .i32 a0, .int .u32 0, .slice (some ⟨g1, 0, none⟩) k k] 27)).alloc (.cells #[.int .i32 a0, .int .i32 a1] 21) = v1 := ⟨_, rfl⟩
          have b12 : Below u1.heap.size u1 v1 := by rw [← hv1]; exact two_boxes _ _ _
          have G1 : Hid (Grp v1 27 u1.heap.size a0 0 (.slice (some ⟨g1, 0, none⟩) k k)) := by rw [← hv1]; exact (grp_new _ _ _ _ _).keep (box_over _ _)
          have Y1 : Hid (Lst .i32 v1 (some ⟨u1.heap.size + 1, 0, none⟩) [a0, a1]) := by
            have := lst_new (k := .i32) (u1.alloc (.cells #[.int .i32 a0, .int .u32 0, .slice (some ⟨g1, 0, none⟩) k k] 27)) (t := 21) [a0, a1]
            rw [show (u1.alloc (.cells #[.int .i32 a0, .int .u32 0, .slice (some ⟨g1, 0, none⟩) k k] 27)).heap.size = u1.heap.size + 1 by simp] at this
            rw [← hv1]
            exact this
          have L2 : Hid (Lst .i64 v1 (some ⟨g1, 0, none⟩) (Gp.codes a0 0 x)) := L1.out.keep b12
          have P2 : Hid (Below u.heap.size u v1) := below_then P1.out b12
          rw [hv1]
          clear hv1 b12 P1 L1
          refine (of_ok _ 2 b s [a0, a1] _ Y1.out I2.out HS.out (by simp) (by simp) z sc EZ2.out ES2.out).mono ?_
          rintro e u2 ⟨g2, rfl, hg2, hL2, hb2⟩
          simp only [List.length_cons, List.length_nil, Nat.zero_add, Nat.reduceAdd]
          have G2 : Hid (Grp u2 27 u1.heap.size a0 0 (.slice (some ⟨g1, 0, none⟩) k k)) := G1.out.keep hb2
          have L3 : Hid (Lst .i64 u2 (some ⟨g1, 0, none⟩) (Gp.codes a0 0 x)) := L2.out.keep hb2
          have K3 : Hid (Lst .i64 u2 (some ⟨g2, 0, none⟩) (Gp.codes z sc [a0, a1])) := hL2
          have P3 : Hid (Below u.heap.size u u2) := below_then P2.out hb2
          clear hg2 hL2 hb2 G1 L2 P2 Y1
          go_wp2_with fail
          refine (back_anym _ _ _ 2 2 (Gp.codes z sc [a0, a1]) _ C2.out.symm (K3.out.keep (box_over _ _)) (by omega) F2.out zb.1 zb.2 sb.1 (by omega)).mono ?_
          rintro e v ⟨g3, rfl, hg3, hL3, hb3⟩
          have G3 : Hid (Grp v 27 u1.heap.size a0 0 (.slice (some ⟨g1, 0, none⟩) k k)) := (G2.out.keep (box_over _ _)).keep hb3
          have L4 : Hid (Lst .i64 v (some ⟨g1, 0, none⟩) (Gp.codes a0 0 x)) := (L3.out.keep (box_over _ _)).keep hb3
          have P4 : Hid (Below u.heap.size u v) := below_then (below_then P3.out (box_over _ _)) hb3
          have X4 : Hid (Lst .i32 v va x) := X1.out.keep P4.out
          have M4 : Hid (v.cell? ⟨g3, 0, none⟩ = some (.int .i32 m0) ∧ v.cell? ⟨g3, 1, none⟩ = some (.int .i32 m1)) := by
            refine ⟨?_, ?_⟩
            · have := hL3.cell0 (i := 0) (by rw [M2.out]; omega); rw [E0.out] at this; exact this
            · have := hL3.cell0 (i := 1) (by rw [M2.out]; omega); rw [E1.out] at this; exact this
          clear hg3 hL3 hb3 G2 L3 K3 P3
          go_wp2_with fail
          have KS : Hid (∀ w', Below v.heap.size v w' → (w'.cell? ⟨u1.heap.size, 0, none⟩ = some (.int .i32 a0) ∧ w'.cell? ⟨u1.heap.size, 1, none⟩ = some (.int .u32 0) ∧ w'.cell? ⟨u1.heap.size, 2, none⟩ = some (.slice (some ⟨g1, 0, none⟩) k k)) ∧ (w'.cell? ⟨g3, 0, none⟩ = some (.int .i32 m0) ∧ w'.cell? ⟨g3, 1, none⟩ = some (.int .i32 m1)) ∧ Hid (Below v.heap.size v w')) := fun w' hb =>
            ⟨(G3.out.keep hb).cells, ⟨by rw [hb.cell (p := ⟨g3, 0, none⟩) (World.block_lt_of_cell? v _ M4.out.1)]; exact M4.out.1, by rw [hb.cell (p := ⟨g3, 1, none⟩) (World.block_lt_of_cell? v _ M4.out.2)]; exact M4.out.2⟩, hb⟩
          obtain ⟨hm1, hm2⟩ := HM.out
          go_region_held3 (fun w' => (w'.cell? ⟨u1.heap.size, 0, none⟩ = some (.int .i32 a0) ∧ w'.cell? ⟨u1.heap.size, 1, none⟩ = some (.int .u32 0) ∧ w'.cell? ⟨u1.heap.size, 2, none⟩ = some (.slice (some ⟨g1, 0, none⟩) k k)) ∧ (w'.cell? ⟨g3, 0, none⟩ = some (.int .i32 m0) ∧ w'.cell? ⟨g3, 1, none⟩ = some (.int .i32 m1)) ∧ Hid (Below v.heap.size v w'))
            (first
              | exact KS.out _ ((Below.refl v.heap.size v).drew)
              | exact KS.out _ hbc.out
              | assumption)
            (first
              | (go_at_call 17; refine (back_anym _ _ _ _ _ (Gp.codes a0 0 x) _ CL.out.symm (L4.out.keep ((Below.refl v.heap.size v).drew)) hl FT.out vb.1 vb.2 (by omega) (by omega)).mono ?_; rintro e v4 ⟨g4, rfl, hg4, hL4, hb⟩; rw [EM.out] at hL4; have hbc : Hid (Below v.heap.size v v4) := ((Below.refl v.heap.size v).drew).trans hb; have L5 : Hid (Lst .i32 v4 (some ⟨g4, 0, none⟩) x) := hL4; clear hb hL4 hg4)
              | (go_at_call 16; refine (same_anym _ _ _ _ _ _ x x _ EL.out.symm EL.out.symm L5.out (X4.out.keep hbc.out) (by rw [EL.out]; omega) rfl).mono ?_; rintro e v6 ⟨rfl, hb⟩; have hbc : Hid (Below v.heap.size v v6) := below_then hbc.out hb; clear hb))
          all_goals
            go_wp2
            go_roundw
            case rel => exact ⟨j + 1, by omega, by go_num, below_then P4.out hbc.out⟩
            case measure => simp [intOf]; omega
        · go_wp2_with (go_at_call 9; refine (gpAwake_any _).mono ?_; rintro e wa ⟨rfl, hba⟩; have BA : Hid (Below w.heap.size w wa) := below_then (below_then B1.out HB.out) hba; clear hba)
          go_ret
          exact ⟨rfl, BA.out⟩

set_option maxRecDepth 100000 in
theorem lifted (os : Os) (started : os.Started) (H : Type) (enc : TypeId × Value → H) :
    ReturnsInHanded {} Try.checked os 6 .any (Rows.groupFlatSpec.pre6 enc Try.prog Try.f6 Rows.groupFlatRow.domain false) (Rows.groupFlatSpec.post enc Try.prog Try.f6 false true false false) := by
  refine returnsInHanded_of_change (C := Try.checked) own started (by kernel_rfl) Try.func6
    (ChangeSpec.witness6 (enc := enc) (C := Try.checked) false ⟨#[], #[.int .i32 0, .int .i32 0, .int .i64 0], []⟩ 8 (by kernel_rfl) (by kernel_rfl) (by kernel_rfl) (by kernel_rfl)) ?_
  intro W base args ds gs before hval0 hW hcnd _
  have hval : ∀ (j : Nat) t v, Try.f6.params[j]? = some t → args[j]? = some v → Value.okWide Try.prog W .any base t v := hval0
  have hW' := hW
  obtain ⟨p, q, hA0, hV, rfl, hfz, hnd⟩ := hW
  have hA : DataW.TrodAll enc Try.prog W 0 (fun _ => true) true Try.f6.params.toList args.toList ds p := hA0
  rw [Try.params6] at hA hval
  obtain ⟨v0, vs0, d0, ds0, p0, q0, hargs, rfl, rfl, h0, r0⟩ := trodAll_cons hA
  obtain ⟨v1, vs1, d1, ds1, p1, q1, rfl, rfl, rfl, h1, r1⟩ := trodAll_cons r0
  obtain ⟨v2, vs2, d2, ds2, p2, q2, rfl, rfl, rfl, h2, r2⟩ := trodAll_cons r1
  obtain ⟨rfl, rfl, rfl⟩ := trodAll_nil r2
  obtain rfl : args = #[v0, v1, v2] := by cases args; simp_all
  obtain ⟨rfl, rfl⟩ := trodVars_none hV
  obtain ⟨a0, rfl, rfl, rfl, w0⟩ := open_int Try.underlying21 (hval 0 21 v0 rfl rfl) h0
  obtain ⟨a1, rfl, rfl, rfl, w1⟩ := open_int Try.underlying21 (hval 1 21 v1 rfl rfl) h1
  obtain ⟨a2, rfl, rfl, rfl, w2⟩ := open_int Try.underlying3 (hval 2 3 v2 rfl rfl) h2
  clear hA0 hval0
  refine (walk a0 a1 a2 W w0 w1 w2).mono fun e W' ⟨he, bel⟩ => ?_
  subst he
  exact ⟨_, rfl, _, _, _, [], _, [], hW', trodAll_mk1 (shut_bool Try.underlying4 _), (trodAll_cons_mk (shut_int Try.underlying21 w0) (trodAll_cons_mk (shut_int Try.underlying21 w1) (trodAll_cons_mk (shut_int Try.underlying3 w2) trodAll_mk0))), rfl, bel.frame _, fun h => by cases h⟩

theorem over : Rows.groupFlatRow.holds Try.pinned (OpenSpec.ofChange Rows.groupFlatSpec) :=
  OpenClaim.holds_of_wide 6 Try.f6 rfl rfl rfl rfl rfl rfl rfl ⟨rfl, rfl, rfl, rfl, rfl⟩ rfl rfl rfl rfl rfl (by kernel_rfl) Try.func6 (by kernel_rfl)
    (of_decide_eq_true (by kernel_rfl)) (by unfold Func.isWrapper; first | (rw [if_pos (by decide +kernel)]; kernel_rfl) | (rw [if_neg (by decide +kernel)]; exact ⟨rfl, rfl⟩))
    (fun os started H enc _ => lifted os started H enc)

theorem proved : Rows.GroupFlatSaid := over
end Go.Proofs.Ytbiclpaakehgpaa.groupFlat

namespace Go.Proofs.Ytbiclpaakehgpaa
theorem groupFlat_holds : Rows.GroupFlatSaid := groupFlat.proved
#print axioms groupFlat_holds
end Go.Proofs.Ytbiclpaakehgpaa
