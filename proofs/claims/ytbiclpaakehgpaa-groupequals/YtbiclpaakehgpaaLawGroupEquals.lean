/- Two groups are one just if all of both is the same: GroupEquals answers true for every input. -/
import Derived.Test.YtbiclpaakehgpaaRows
import Derived.Test.YtbiclpaakehgpaaGpNames
import Derived.Test.YtbiclpaakehgpaaStFrame
import Derived.Deep.RegionHeld3
import Derived.WalkKit
import Derived.ProofKit
import Derived.OpenShut
import Derived.ShutString
import Derived.ChangeOld
import Derived.Below
namespace Go.Proofs.Ytbiclpaakehgpaa.groupEquals
open Go.ChangeShapes Go.WideShapes Go.ChangeAt Go.RowKit
set_option linter.unusedVariables false

theorem own : ownKnob Try.prog.godebug = none := by kernel_rfl
theorem laidOut : laidOutB Try.prog = true := by kernel_rfl

/-- What the walk is told of a slice of integers that came in. -/
def IsRow (k : IntKind) (w : World) (a : Option Addr) (len cap : Nat) (zs : List Int) : Prop :=
  (a = none ∧ len = 0 ∧ cap = 0 ∧ zs = []) ∨
  ∃ x, a = some x ∧ len ≤ cap ∧ cap ≤ maxLen ∧ zs.length = cap ∧ (∀ i, i < zs.length → w.cell? (x.add i) = some (.int k (zs.getD i 0))) ∧ ∀ n ∈ zs, (Lit.int k n).wf = true

set_option maxRecDepth 100000 in
set_option maxHeartbeats 1600000 in
theorem walk (b00 : Int) (b01 : Int) (a02 : Option Addr) (len02 cap02 : Nat) (z02 : List Int) (b10 : Int) (b11 : Int) (a12 : Option Addr) (len12 cap12 : Nat) (z12 : List Int) (w : World) (w00 : (Lit.int .i32 b00).wf = true) (w01 : (Lit.int .u32 b01).wf = true) (w02 : IsRow .i64 w a02 len02 cap02 z02) (w10 : (Lit.int .i32 b10).wf = true) (w11 : (Lit.int .u32 b11).wf = true) (w12 : IsRow .i64 w a12 len12 cap12 z12) :
    Calls Try.prog 8 #[.agg #[.int .i32 b00, .int .u32 b01, .slice a02 len02 cap02], .agg #[.int .i32 b10, .int .u32 b11, .slice a12 len12 cap12]] w fun e w' => e = .returned (.bool true) ∧ Below w.heap.size w w' := by
  -- depth
  obtain ⟨x, hx, LX, MX⟩ := row_openG w02
  obtain ⟨y, hy, LY, MY⟩ := row_openG w12
  subst hx hy
  have HX : Hid (Lst .i64 w a02 x) := LX
  have HY : Hid (Lst .i64 w a12 y) := LY
  have NX : Hid (x.length ≤ maxLen) := MX
  have NY : Hid (y.length ≤ maxLen) := MY
  clear w00 w01 w02 w10 w11 w12 LX LY MX MY
  by_cases hm : 400 < x.length
  · go_enter Try.func8, Try.ntmps8
    go_wp2_with (go_at_call 9; refine (gpAwake_any _).mono ?_; rintro e wa ⟨rfl, hba⟩; have BA : Hid (Below w.heap.size w wa) := below_then (two_boxes _ _ _) hba; clear hba)
    go_ret
    exact ⟨rfl, BA.out⟩
  by_cases hn : 400 < y.length
  · go_enter Try.func8, Try.ntmps8
    go_wp2_with (go_at_call 9; refine (gpAwake_any _).mono ?_; rintro e wa ⟨rfl, hba⟩; have BA : Hid (Below w.heap.size w wa) := below_then (two_boxes _ _ _) hba; clear hba)
    go_ret
    exact ⟨rfl, BA.out⟩
  obtain ⟨q, eq⟩ : ∃ q, Gp.eqG b00 b01 x b10 b11 y = q := ⟨_, rfl⟩
  have EQ : Hid (Gp.eqG b00 b01 x b10 b11 y = q) := eq
  have EQ2 : Hid (Gp.eqG b10 b11 y b00 b01 x = q) := by show _ = _; rw [Gp.eqG_comm]; exact eq
  clear eq
  have t1 : decide (400 < (x.length : Int)) = false := decide_eq_false (by omega)
  have t2 : decide (400 < (y.length : Int)) = false := decide_eq_false (by omega)
  cases q
  all_goals
    go_enter Try.func8, Try.ntmps8
    go_wp2_with fail
    obtain ⟨u, hu⟩ : ∃ u, (w.alloc (.cells #[.int .i32 b00, .int .u32 b01, .slice a02 x.length cap02] 27)).alloc (.cells #[.int .i32 b10, .int .u32 b11, .slice a12 y.length cap12] 27) = u := ⟨_, rfl⟩
    have G3 : Hid (Grp u 27 w.heap.size b00 b01 (.slice a02 x.length cap02)) := by rw [← hu]; exact (grp_new _ _ _ _ _).keep (box_over _ _)
    have H3 : Hid (Grp u 27 (w.heap.size + 1) b10 b11 (.slice a12 y.length cap12)) := by
      have := grp_new (w.alloc (.cells #[.int .i32 b00, .int .u32 b01, .slice a02 x.length cap02] 27)) b10 b11 (.slice a12 y.length cap12) 27
      rw [hu, show (w.alloc (.cells #[.int .i32 b00, .int .u32 b01, .slice a02 x.length cap02] 27)).heap.size = w.heap.size + 1 by simp] at this
      exact this
    have B3 : Hid (Below w.heap.size w u) := by rw [← hu]; exact two_boxes _ _ _
    have L3 : Hid (Lst .i64 u a02 x) := HX.out.keep B3.out
    have M3 : Hid (Lst .i64 u a12 y) := HY.out.keep B3.out
    rw [hu]
    clear hu HX HY
    have KS : Hid (∀ w', Below u.heap.size u w' → (w'.cell? ⟨w.heap.size, 0, none⟩ = some (.int .i32 b00) ∧ w'.cell? ⟨w.heap.size, 1, none⟩ = some (.int .u32 b01) ∧ w'.cell? ⟨w.heap.size, 2, none⟩ = some (.slice a02 x.length cap02)) ∧ (w'.cell? ⟨w.heap.size + 1, 0, none⟩ = some (.int .i32 b10) ∧ w'.cell? ⟨w.heap.size + 1, 1, none⟩ = some (.int .u32 b11) ∧ w'.cell? ⟨w.heap.size + 1, 2, none⟩ = some (.slice a12 y.length cap12)) ∧ Hid (Below u.heap.size u w')) :=
      fun w' hb => ⟨(G3.out.keep hb).cells, (H3.out.keep hb).cells, hb⟩
    have L4 : Hid (Lst .i64 u.drew a02 x) := L3.out.keep ((Below.refl _ _).drew)
    have M4 : Hid (Lst .i64 u.drew a12 y) := M3.out.keep ((Below.refl _ _).drew)
    go_region_held3 (fun w' => (w'.cell? ⟨w.heap.size, 0, none⟩ = some (.int .i32 b00) ∧ w'.cell? ⟨w.heap.size, 1, none⟩ = some (.int .u32 b01) ∧ w'.cell? ⟨w.heap.size, 2, none⟩ = some (.slice a02 x.length cap02)) ∧ (w'.cell? ⟨w.heap.size + 1, 0, none⟩ = some (.int .i32 b10) ∧ w'.cell? ⟨w.heap.size + 1, 1, none⟩ = some (.int .u32 b11) ∧ w'.cell? ⟨w.heap.size + 1, 2, none⟩ = some (.slice a12 y.length cap12)) ∧ Hid (Below u.heap.size u w'))
      (first
        | exact KS.out _ ((Below.refl _ _).drew)
        | exact KS.out _ hbc.out
        | assumption)
      (first
        | (go_at_call 14; refine (ref_any _ _ _ _ _ _).mono ?_; rintro e v1 ⟨rfl, hb⟩; have hbc : Hid (Below u.heap.size u v1) := below_then hbc.out hb; clear hb)
        | (go_at_call 22; (with_reducible refine (equal_any b00 b01 b10 b11 _ _ _ _ x y _ L4.out M4.out NX.out _ EQ.out).mono ?_); rintro e v2 ⟨rfl, hb⟩; have hbc : Hid (Below u.heap.size u v2) := ((Below.refl u.heap.size u).drew).trans hb; clear hb)
        | (go_at_call 22; (with_reducible refine (equal_any b00 b01 b10 b11 _ _ _ _ x y _ (L3.out.keep hbc.out) (M3.out.keep hbc.out) NX.out _ EQ.out).mono ?_); rintro e v2 ⟨rfl, hb⟩; have hbc : Hid (Below u.heap.size u v2) := below_then hbc.out hb; clear hb)
        | (go_at_call 22; (with_reducible refine (equal_any b10 b11 b00 b01 _ _ _ _ y x _ (M3.out.keep hbc.out) (L3.out.keep hbc.out) NY.out _ EQ2.out).mono ?_); rintro e v2 ⟨rfl, hb⟩; have hbc : Hid (Below u.heap.size u v2) := below_then hbc.out hb; clear hb)
        | (go_at_call 13; refine (refSame_any b00 b01 b10 b11 _ _ _ _ x y _ (L3.out.keep hbc.out) (M3.out.keep hbc.out) NX.out _ EQ.out).mono ?_; rintro e v2 ⟨rfl, hb⟩; have hbc : Hid (Below u.heap.size u v2) := below_then hbc.out hb; clear hb)
        | (go_at_call 9; refine (gpAwake_any _).mono ?_; rintro e v7 ⟨rfl, hb⟩; have hbc : Hid (Below u.heap.size u v7) := below_then hbc.out hb; clear hb))
    go_wp2
    go_ret
    exact ⟨rfl, below_then B3.out hbc.out⟩

set_option maxRecDepth 100000 in
set_option maxHeartbeats 3200000 in
theorem lifted (os : Os) (started : os.Started) (H : Type) (enc : TypeId × Value → H) :
    ReturnsInHanded {} Try.checked os 8 .any (Rows.groupEqualsSpec.pre6 enc Try.prog Try.f8 Rows.groupEqualsRow.domain false) (Rows.groupEqualsSpec.post enc Try.prog Try.f8 false true false false) := by
  refine returnsInHanded_of_change (C := Try.checked) own started (by kernel_rfl) Try.func8
    (ChangeSpec.witness6 (enc := enc) (C := Try.checked) false ⟨#[], #[.agg #[.int .i32 0, .int .u32 0, .slice none 0 0], .agg #[.int .i32 0, .int .u32 0, .slice none 0 0]], []⟩ 8 (by kernel_rfl) (by kernel_rfl) (by kernel_rfl) (by kernel_rfl)) ?_
  intro W base args ds gs before hval0 hW hcnd _
  have hval : ∀ (j : Nat) t v, Try.f8.params[j]? = some t → args[j]? = some v → Value.okWide Try.prog W .any base t v := hval0
  have hW' := hW
  obtain ⟨p, q, hA0, hV, rfl, hfz, hnd⟩ := hW
  have hA : DataW.TrodAll enc Try.prog W 0 (fun _ => true) true Try.f8.params.toList args.toList ds p := hA0
  rw [Try.params8] at hA hval
  obtain ⟨v0, vs0, d0, ds0, p0, q0, hargs, rfl, rfl, h0, r0⟩ := trodAll_cons hA
  obtain ⟨v1, vs1, d1, ds1, p1, q1, rfl, rfl, rfl, h1, r1⟩ := trodAll_cons r0
  obtain ⟨rfl, rfl, rfl⟩ := trodAll_nil r1
  obtain rfl : args = #[v0, v1] := by cases args; simp_all
  obtain ⟨rfl, rfl⟩ := trodVars_none hV
  obtain ⟨cs0, rfl, hsz0⟩ := okWide_struct Try.underlying27 (hval 0 27 v0 rfl rfl)
  have k0 := h0
  have lt0 : ∀ x ∈ p0, x.block < W.heap.size := by obtain ⟨m, hm⟩ := k0; exact DataW.trod_lt m _ _ _ hm
  rw [show Try.prog.cellsOf 27 = 3 by kernel_rfl] at hsz0
  obtain ⟨c00, c01, c02, rfl⟩ := cells3 hsz0
  obtain ⟨fuel0, hf0⟩ := h0
  obtain ⟨n0, hn0⟩ := open_fields Try.underlying27 (by kernel_rfl) (cs := [c00, c01, c02]) rfl hf0
  obtain ⟨y00, hy00⟩ := hn0 0 _ _ rfl rfl
  obtain ⟨b00, e00, _, w00⟩ := DataW.trod_int Try.underlying21 hy00
  simp only [List.cons.injEq, and_true] at e00
  subst e00
  obtain ⟨y01, hy01⟩ := hn0 1 _ _ rfl rfl
  obtain ⟨b01, e01, _, w01⟩ := DataW.trod_int Try.underlying24 hy01
  simp only [List.cons.injEq, and_true] at e01
  subst e01
  obtain ⟨y02, hy02⟩ := hn0 2 _ _ rfl rfl
  obtain ⟨a02, len02, cap02, z02, e02, w02⟩ : ∃ a len cap zs, c02 = .slice a len cap ∧ IsRow .i64 W a len cap zs := by
    rcases open_ints Try.underlying25 Try.underlying3 (by kernel_rfl) hy02 with ⟨hcs, _⟩ | ⟨x, l, c, zs, hcs, _, hl, hm, hz, _, hcell, hwz⟩
    · simp only [List.cons.injEq, and_true] at hcs
      exact ⟨none, 0, 0, [], hcs, .inl ⟨rfl, rfl, rfl, rfl⟩⟩
    · simp only [List.cons.injEq, and_true] at hcs
      exact ⟨some _, l, c, zs, hcs, .inr ⟨_, rfl, hl, hm, by simpa using hz, hcell, hwz⟩⟩
  subst e02
  obtain ⟨cs1, rfl, hsz1⟩ := okWide_struct Try.underlying27 (hval 1 27 v1 rfl rfl)
  have k1 := h1
  have lt1 : ∀ x ∈ p1, x.block < W.heap.size := by obtain ⟨m, hm⟩ := k1; exact DataW.trod_lt m _ _ _ hm
  rw [show Try.prog.cellsOf 27 = 3 by kernel_rfl] at hsz1
  obtain ⟨c10, c11, c12, rfl⟩ := cells3 hsz1
  obtain ⟨fuel1, hf1⟩ := h1
  obtain ⟨n1, hn1⟩ := open_fields Try.underlying27 (by kernel_rfl) (cs := [c10, c11, c12]) rfl hf1
  obtain ⟨y10, hy10⟩ := hn1 0 _ _ rfl rfl
  obtain ⟨b10, e10, _, w10⟩ := DataW.trod_int Try.underlying21 hy10
  simp only [List.cons.injEq, and_true] at e10
  subst e10
  obtain ⟨y11, hy11⟩ := hn1 1 _ _ rfl rfl
  obtain ⟨b11, e11, _, w11⟩ := DataW.trod_int Try.underlying24 hy11
  simp only [List.cons.injEq, and_true] at e11
  subst e11
  obtain ⟨y12, hy12⟩ := hn1 2 _ _ rfl rfl
  obtain ⟨a12, len12, cap12, z12, e12, w12⟩ : ∃ a len cap zs, c12 = .slice a len cap ∧ IsRow .i64 W a len cap zs := by
    rcases open_ints Try.underlying25 Try.underlying3 (by kernel_rfl) hy12 with ⟨hcs, _⟩ | ⟨x, l, c, zs, hcs, _, hl, hm, hz, _, hcell, hwz⟩
    · simp only [List.cons.injEq, and_true] at hcs
      exact ⟨none, 0, 0, [], hcs, .inl ⟨rfl, rfl, rfl, rfl⟩⟩
    · simp only [List.cons.injEq, and_true] at hcs
      exact ⟨some _, l, c, zs, hcs, .inr ⟨_, rfl, hl, hm, by simpa using hz, hcell, hwz⟩⟩
  subst e12
  clear hA0 hval0
  refine (walk b00 b01 a02 len02 cap02 z02 b10 b11 a12 len12 cap12 z12 W w00 w01 w02 w10 w11 w12).mono fun e W' ⟨he, bel⟩ => ?_
  subst he
  exact ⟨_, rfl, _, _, _, [], _, [], hW', trodAll_mk1 (shut_bool Try.underlying4 _), (trodAll_cons_mk (Below.trod laidOut (by kernel_rfl) (of_decide_eq_true (by kernel_rfl)) k0 bel lt0) (trodAll_cons_mk (Below.trod laidOut (by kernel_rfl) (of_decide_eq_true (by kernel_rfl)) k1 bel lt1) trodAll_mk0)), rfl, bel.frame _, fun h => by cases h⟩

theorem over : Rows.groupEqualsRow.holds Try.pinned (OpenSpec.ofChange Rows.groupEqualsSpec) :=
  OpenClaim.holds_of_wide 8 Try.f8 rfl rfl rfl rfl rfl rfl rfl ⟨rfl, rfl, rfl, rfl, rfl⟩ rfl rfl rfl rfl rfl (by kernel_rfl) Try.func8 (by kernel_rfl)
    (of_decide_eq_true (by kernel_rfl)) (by unfold Func.isWrapper; first | (rw [if_pos (by decide +kernel)]; kernel_rfl) | (rw [if_neg (by decide +kernel)]; exact ⟨rfl, rfl⟩))
    (fun os started H enc _ => lifted os started H enc)

theorem proved : Rows.GroupEqualsSaid := over
end Go.Proofs.Ytbiclpaakehgpaa.groupEquals

namespace Go.Proofs.Ytbiclpaakehgpaa
theorem groupEquals_holds : Rows.GroupEqualsSaid := groupEquals.proved
#print axioms groupEquals_holds
end Go.Proofs.Ytbiclpaakehgpaa
