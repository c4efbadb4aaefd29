/- PageQuantizes (layer 8): for every input: any keys and values are quantized as the document says, or refused; no conditions beyond the row's own. -/
import Derived.Test.YtgfaehhkbkfmhaaGreatRows
import Derived.Test.YtgfaehhkbkfmhaaGreatPaB
import Derived.WalkKit
import Derived.ProofKit
import Derived.OpenShut
import Derived.ShutString
import Derived.ChangeOld
import Derived.Below
namespace Go.Proofs.YtgfaehhkbkfmhaaGreat.pageQuantizes
open Go.ChangeShapes Go.WideShapes Go.ChangeAt Go.RowKit
set_option linter.unusedVariables false

theorem own : ownKnob Tryz.prog.godebug = none := by kernel_rfl
theorem laidOut : laidOutB Tryz.prog = true := by kernel_rfl

/-- What the walk is told of a slice of integers that came in. -/
def IsRow (k : IntKind) (w : World) (a : Option Addr) (len cap : Nat) (zs : List Int) : Prop :=
  (a = none ∧ len = 0 ∧ cap = 0 ∧ zs = []) ∨
  ∃ x, a = some x ∧ len ≤ cap ∧ cap ≤ maxLen ∧ zs.length = cap ∧ (∀ i, i < zs.length → w.cell? (x.add i) = some (.int k (zs.getD i 0))) ∧ ∀ n ∈ zs, (Lit.int k n).wf = true

set_option maxRecDepth 100000 in
set_option maxHeartbeats 3200000 in
theorem walk (b00 : Int) (b01 : Int) (b02 : Int) (b03 : Int) (b04 : Int) (b05 : Int) (b06 : Int) (a07 : Option Addr) (len07 cap07 : Nat) (a08 : Option Addr) (len08 cap08 : Nat) (w : World) (w00 : (Lit.int .i64 b00).wf = true) (w01 : (Lit.int .i64 b01).wf = true) (w02 : (Lit.int .i64 b02).wf = true) (w03 : (Lit.int .i64 b03).wf = true) (w04 : (Lit.int .i64 b04).wf = true) (w05 : (Lit.int .i64 b05).wf = true) (w06 : (Lit.int .i64 b06).wf = true) (w07 : IsTable w a07 len07 cap07) (w08 : IsTable w a08 len08 cap08) :
    Calls Tryz.prog 5 #[.agg #[.int .i64 b00, .int .i64 b01, .int .i64 b02, .int .i64 b03, .int .i64 b04, .int .i64 b05, .int .i64 b06, .slice a07 len07 cap07, .slice a08 len08 cap08]] w fun e w' => e = .returned (.bool true) ∧ Below w.heap.size w w' := by
  -- depth
  obtain ⟨ks, hk, TK, IK0, MK0, _⟩ := table_open w07
  obtain ⟨vs, hv, TV, IV0, MV0, _⟩ := table_open w08
  subst hk
  subst hv
  have HK : Hid (Tbl w a07 ks) := TK
  have HV : Hid (Tbl w a08 vs) := TV
  have IK : Hid (∀ k, Ls.In32 (Tb.row ks k)) := IK0
  have IV : Hid (∀ k, Ls.In32 (Tb.row vs k)) := IV0
  have MK : Hid (ks.length ≤ maxLen) := MK0
  have MV : Hid (vs.length ≤ maxLen) := MV0
  clear w00 w01 w02 w03 w04 w05 w06 w07 w08 TK TV IK0 IV0 MK0 MV0
  obtain ⟨q, eq⟩ : ∃ q, Pg.rightH [b00, b01, b02, b03, b04, b05, b06] = q := ⟨_, rfl⟩
  obtain ⟨p1, ep1⟩ : ∃ p, Pg.shapedB ks b02 b03 = p := ⟨_, rfl⟩
  obtain ⟨p2, ep2⟩ : ∃ p, Pg.shapedB vs b02 b03 = p := ⟨_, rfl⟩
  have EQ : Hid (Pg.rightH [b00, b01, b02, b03, b04, b05, b06] = q) := eq
  have P1 : Hid (Pg.shapedB ks b02 b03 = p1) := ep1
  have P2 : Hid (Pg.shapedB vs b02 b03 = p2) := ep2
  clear eq ep1 ep2
  by_cases g1 : 30 < ks.length
  · have t1 : decide (30 < (ks.length : Int)) = true := decide_eq_true (by omega)
    go_enter Tryz.func5, Tryz.ntmps5
    go_wp2_with (go_at_call 7; refine (pgAwake_any _).mono ?_; rintro r va ⟨rfl, hb⟩; have BA : Hid (Below w.heap.size w va) := below_then (box_below w _) hb; clear hb)
    go_ret
    exact ⟨rfl, BA.out⟩
  by_cases g2 : 30 < vs.length
  · have t1 : decide (30 < (ks.length : Int)) = false := decide_eq_false (by omega)
    have t2 : decide (30 < (vs.length : Int)) = true := decide_eq_true (by omega)
    go_enter Tryz.func5, Tryz.ntmps5
    go_wp2_with (go_at_call 7; refine (pgAwake_any _).mono ?_; rintro r va ⟨rfl, hb⟩; have BA : Hid (Below w.heap.size w va) := below_then (box_below w _) hb; clear hb)
    go_ret
    exact ⟨rfl, BA.out⟩
  have t1 : decide (30 < (ks.length : Int)) = false := decide_eq_false (by omega)
  have t2 : decide (30 < (vs.length : Int)) = false := decide_eq_false (by omega)
  cases q
  · go_enter Tryz.func5, Tryz.ntmps5
    go_wp2_with fail
    obtain ⟨u0, hu0⟩ : ∃ u, w.alloc (.cells #[.int .i64 b00, .int .i64 b01, .int .i64 b02, .int .i64 b03, .int .i64 b04, .int .i64 b05, .int .i64 b06, .slice a07 ks.length cap07, .slice a08 vs.length cap08] 52) = u := ⟨_, rfl⟩
    have U0 : Hid (Below w.heap.size w u0) := by rw [← hu0]; exact box_below _ _
    have NM : Hid (∀ v, Below u0.heap.size u0 v → NmAt v w.heap.size b00 b01 b02 b03 b04 b05 b06 (.slice a07 ks.length cap07) (.slice a08 vs.length cap08)) := by rw [← hu0]; exact fun v hb => nm_box hb
    rw [hu0]
    clear hu0
    refine (quantP_range _ _ _ _ _ _ _ _ _ _ _ _ _ _ EQ.out).mono ?_
    rintro r v1 ⟨rfl, hb⟩
    have B1 : Hid (Below u0.heap.size u0 v1) := hb
    obtain ⟨⟨x0, x1, x2, x3, x4, x5, x6⟩, x7, x8⟩ := NM.out v1 B1.out
    clear hb
    go_wp2_with fail
    refine (head_any _ _ _ _ _ _ _ _).mono ?_
    rintro r v2 ⟨rfl, hb⟩
    clear x0 x1 x2 x3 x4 x5 x6 x7 x8
    have B2 : Hid (Below u0.heap.size u0 v2) := below_then B1.out hb
    obtain ⟨⟨x0, x1, x2, x3, x4, x5, x6⟩, x7, x8⟩ := NM.out v2 B2.out
    clear hb
    go_wp2_with fail
    refine (refRightH_any _ _ _ _ _ _ _ false EQ.out _).mono ?_
    rintro r v3 ⟨rfl, hb⟩
    clear x0 x1 x2 x3 x4 x5 x6 x7 x8
    have B3 : Hid (Below u0.heap.size u0 v3) := below_then B2.out hb
    obtain ⟨⟨x0, x1, x2, x3, x4, x5, x6⟩, x7, x8⟩ := NM.out v3 B3.out
    clear hb
    go_wp2_with (go_at_call 7; refine (pgAwake_any _).mono ?_; rintro r va ⟨rfl, hb⟩; have BA : Hid (Below w.heap.size w va) := below_then (below_then U0.out B3.out) hb; clear hb)
    go_ret
    exact ⟨rfl, BA.out⟩
  cases p1
  · have SH : Hid ((Pg.shapedB ks b02 b03 && Pg.shapedB vs b02 b03) = false) := by show _ = _; rw [P1.out]; rfl
    go_enter Tryz.func5, Tryz.ntmps5
    go_wp2_with fail
    obtain ⟨u0, hu0⟩ : ∃ u, w.alloc (.cells #[.int .i64 b00, .int .i64 b01, .int .i64 b02, .int .i64 b03, .int .i64 b04, .int .i64 b05, .int .i64 b06, .slice a07 ks.length cap07, .slice a08 vs.length cap08] 52) = u := ⟨_, rfl⟩
    have U0 : Hid (Below w.heap.size w u0) := by rw [← hu0]; exact box_below _ _
    have NM : Hid (∀ v, Below u0.heap.size u0 v → NmAt v w.heap.size b00 b01 b02 b03 b04 b05 b06 (.slice a07 ks.length cap07) (.slice a08 vs.length cap08)) := by rw [← hu0]; exact fun v hb => nm_box hb
    rw [hu0]
    clear hu0
    refine (quantP_shape _ _ _ _ _ _ _ _ _ _ _ ks vs _ (HK.out.keep U0.out) (HV.out.keep U0.out) MK.out MV.out EQ.out SH.out).mono ?_
    rintro r v1 ⟨rfl, hb⟩
    have B1 : Hid (Below u0.heap.size u0 v1) := hb
    obtain ⟨⟨x0, x1, x2, x3, x4, x5, x6⟩, x7, x8⟩ := NM.out v1 B1.out
    clear hb
    go_wp2_with fail
    refine (head_any _ _ _ _ _ _ _ _).mono ?_
    rintro r v2 ⟨rfl, hb⟩
    clear x0 x1 x2 x3 x4 x5 x6 x7 x8
    have B2 : Hid (Below u0.heap.size u0 v2) := below_then B1.out hb
    obtain ⟨⟨x0, x1, x2, x3, x4, x5, x6⟩, x7, x8⟩ := NM.out v2 B2.out
    clear hb
    go_wp2_with fail
    refine (refRightH_any _ _ _ _ _ _ _ true EQ.out _).mono ?_
    rintro r v3 ⟨rfl, hb⟩
    clear x0 x1 x2 x3 x4 x5 x6 x7 x8
    have B3 : Hid (Below u0.heap.size u0 v3) := below_then B2.out hb
    obtain ⟨⟨x0, x1, x2, x3, x4, x5, x6⟩, x7, x8⟩ := NM.out v3 B3.out
    clear hb
    go_wp2_with fail
    refine (shaped_any _ _ _ _ _ _ _ _ _ ks false _ (HK.out.keep (below_then U0.out B3.out)) MK.out P1.out).mono ?_
    rintro r v4 ⟨rfl, hb⟩
    clear x0 x1 x2 x3 x4 x5 x6 x7 x8
    have B4 : Hid (Below u0.heap.size u0 v4) := below_then B3.out hb
    obtain ⟨⟨x0, x1, x2, x3, x4, x5, x6⟩, x7, x8⟩ := NM.out v4 B4.out
    clear hb
    go_wp2_with (go_at_call 7; refine (pgAwake_any _).mono ?_; rintro r va ⟨rfl, hb⟩; have BA : Hid (Below w.heap.size w va) := below_then (below_then U0.out B4.out) hb; clear hb)
    go_ret
    exact ⟨rfl, BA.out⟩
  cases p2
  · have SH : Hid ((Pg.shapedB ks b02 b03 && Pg.shapedB vs b02 b03) = false) := by show _ = _; rw [P1.out, P2.out]; rfl
    go_enter Tryz.func5, Tryz.ntmps5
    go_wp2_with fail
    obtain ⟨u0, hu0⟩ : ∃ u, w.alloc (.cells #[.int .i64 b00, .int .i64 b01, .int .i64 b02, .int .i64 b03, .int .i64 b04, .int .i64 b05, .int .i64 b06, .slice a07 ks.length cap07, .slice a08 vs.length cap08] 52) = u := ⟨_, rfl⟩
    have U0 : Hid (Below w.heap.size w u0) := by rw [← hu0]; exact box_below _ _
    have NM : Hid (∀ v, Below u0.heap.size u0 v → NmAt v w.heap.size b00 b01 b02 b03 b04 b05 b06 (.slice a07 ks.length cap07) (.slice a08 vs.length cap08)) := by rw [← hu0]; exact fun v hb => nm_box hb
    rw [hu0]
    clear hu0
    refine (quantP_shape _ _ _ _ _ _ _ _ _ _ _ ks vs _ (HK.out.keep U0.out) (HV.out.keep U0.out) MK.out MV.out EQ.out SH.out).mono ?_
    rintro r v1 ⟨rfl, hb⟩
    have B1 : Hid (Below u0.heap.size u0 v1) := hb
    obtain ⟨⟨x0, x1, x2, x3, x4, x5, x6⟩, x7, x8⟩ := NM.out v1 B1.out
    clear hb
    go_wp2_with fail
    refine (head_any _ _ _ _ _ _ _ _).mono ?_
    rintro r v2 ⟨rfl, hb⟩
    clear x0 x1 x2 x3 x4 x5 x6 x7 x8
    have B2 : Hid (Below u0.heap.size u0 v2) := below_then B1.out hb
    obtain ⟨⟨x0, x1, x2, x3, x4, x5, x6⟩, x7, x8⟩ := NM.out v2 B2.out
    clear hb
    go_wp2_with fail
    refine (refRightH_any _ _ _ _ _ _ _ true EQ.out _).mono ?_
    rintro r v3 ⟨rfl, hb⟩
    clear x0 x1 x2 x3 x4 x5 x6 x7 x8
    have B3 : Hid (Below u0.heap.size u0 v3) := below_then B2.out hb
    obtain ⟨⟨x0, x1, x2, x3, x4, x5, x6⟩, x7, x8⟩ := NM.out v3 B3.out
    clear hb
    go_wp2_with fail
    refine (shaped_any _ _ _ _ _ _ _ _ _ ks true _ (HK.out.keep (below_then U0.out B3.out)) MK.out P1.out).mono ?_
    rintro r v4 ⟨rfl, hb⟩
    clear x0 x1 x2 x3 x4 x5 x6 x7 x8
    have B4 : Hid (Below u0.heap.size u0 v4) := below_then B3.out hb
    obtain ⟨⟨x0, x1, x2, x3, x4, x5, x6⟩, x7, x8⟩ := NM.out v4 B4.out
    clear hb
    go_wp2_with fail
    refine (shaped_any _ _ _ _ _ _ _ _ _ vs false _ (HV.out.keep (below_then U0.out B4.out)) MV.out P2.out).mono ?_
    rintro r v5 ⟨rfl, hb⟩
    clear x0 x1 x2 x3 x4 x5 x6 x7 x8
    have B5 : Hid (Below u0.heap.size u0 v5) := below_then B4.out hb
    obtain ⟨⟨x0, x1, x2, x3, x4, x5, x6⟩, x7, x8⟩ := NM.out v5 B5.out
    clear hb
    go_wp2_with (go_at_call 7; refine (pgAwake_any _).mono ?_; rintro r va ⟨rfl, hb⟩; have BA : Hid (Below w.heap.size w va) := below_then (below_then U0.out B5.out) hb; clear hb)
    go_ret
    exact ⟨rfl, BA.out⟩
  obtain ⟨m0, m1, n0, d0, rfl, rfl, rfl, rfl⟩ := Pg.right_nats EQ.out
  obtain ⟨qa, qb, qc, qd, qe, qf, _⟩ := Pg.rightH_all EQ.out
  obtain ⟨s0, st0⟩ := Pg.okB_nat (m := m0) qa
  obtain ⟨s1, st1⟩ := Pg.okB_nat (m := m1) qb
  have c1 : 1 ≤ n0 := by have : (1 : Int) ≤ n0 := qc; omega
  have c2 : n0 ≤ 16 := by have : (n0 : Int) ≤ 16 := qd; omega
  have c3 : 1 ≤ d0 := by have : (1 : Int) ≤ d0 := qe; omega
  have c4 : d0 ≤ 16 := by have : (d0 : Int) ≤ 16 := qf; omega
  have ST0 : Hid (Gp.St m0 s0) := st0
  have ST1 : Hid (Gp.St m1 s1) := st1
  have NK : Hid (ks.length = n0 ∧ ∀ k, k < ks.length → (Tb.row ks k).length = d0) := Pg.shapedB_all P1.out
  have NV : Hid (vs.length = n0 ∧ ∀ k, k < vs.length → (Tb.row vs k).length = d0) := Pg.shapedB_all P2.out
  obtain ⟨N, eN⟩ : ∃ N, Pg.psize [(m0 : Int), m1, n0, d0, b04, b05, b06] = N := ⟨_, rfl⟩
  have HN : Hid (Pg.psize [(m0 : Int), m1, n0, d0, b04, b05, b06] = N) := eN
  have hN1 : N ≤ 781 := by rw [← eN]; exact Pg.psize_le EQ.out
  have LQ : Hid (n0 = (Pg.qv s1 vs).length) := by show _ = _; rw [Pg.qv_length]; exact NV.out.1.symm
  clear qa qb qc qd qe qf st0 st1 eN
  go_enter Tryz.func5, Tryz.ntmps5
  go_wp2_with fail
  obtain ⟨u0, hu0⟩ : ∃ u, w.alloc (.cells #[.int .i64 (m0 : Int), .int .i64 (m1 : Int), .int .i64 (n0 : Int), .int .i64 (d0 : Int), .int .i64 b04, .int .i64 b05, .int .i64 b06, .slice a07 ks.length cap07, .slice a08 vs.length cap08] 52) = u := ⟨_, rfl⟩
  have U0 : Hid (Below w.heap.size w u0) := by rw [← hu0]; exact box_below _ _
  have NM : Hid (∀ v, Below u0.heap.size u0 v → NmAt v w.heap.size m0 m1 n0 d0 b04 b05 b06 (.slice a07 ks.length cap07) (.slice a08 vs.length cap08)) := by rw [← hu0]; exact fun v hb => nm_box hb
  rw [hu0]
  clear hu0
  refine (quantP_ok m0 m1 n0 d0 s0 s1 b04 b05 b06 _ _ _ _ ks vs _ ST0.out ST1.out (HK.out.keep U0.out) (HV.out.keep U0.out) IK.out IV.out EQ.out P1.out P2.out).mono ?_
  rintro r v1 ⟨p, rfl, _, hpa, hb⟩
  have PA : Hid (PageAt v1 p m0 m1 n0 d0 b04 b05 b06 (Pg.qk s0 d0 ks) (Pg.qv s1 vs)) := hpa
  have B1' : Hid (Below v1.heap.size v1 v1) := Below.refl _ _
  clear hpa
  have B1 : Hid (Below u0.heap.size u0 v1) := hb
  obtain ⟨⟨x0, x1, x2, x3, x4, x5, x6⟩, x7, x8⟩ := NM.out v1 B1.out
  clear hb
  go_wp2_with fail
  refine (head_any _ _ _ _ _ _ _ _).mono ?_
  rintro r v2 ⟨rfl, hb⟩
  clear x0 x1 x2 x3 x4 x5 x6 x7 x8
  have B2 : Hid (Below u0.heap.size u0 v2) := below_then B1.out hb
  obtain ⟨⟨x0, x1, x2, x3, x4, x5, x6⟩, x7, x8⟩ := NM.out v2 B2.out
  have P2v : Hid (PageAt v2 p m0 m1 n0 d0 b04 b05 b06 (Pg.qk s0 d0 ks) (Pg.qv s1 vs)) := PA.out.keep hb
  clear hb PA B1'
  go_wp2_with fail
  refine (refRightH_any _ _ _ _ _ _ _ true EQ.out _).mono ?_
  rintro r v3 ⟨rfl, hb⟩
  clear x0 x1 x2 x3 x4 x5 x6 x7 x8
  have B3 : Hid (Below u0.heap.size u0 v3) := below_then B2.out hb
  obtain ⟨⟨x0, x1, x2, x3, x4, x5, x6⟩, x7, x8⟩ := NM.out v3 B3.out
  have P3v : Hid (PageAt v3 p m0 m1 n0 d0 b04 b05 b06 (Pg.qk s0 d0 ks) (Pg.qv s1 vs)) := P2v.out.keep hb
  clear hb P2v
  go_wp2_with fail
  refine (shaped_any _ _ _ _ _ _ _ _ _ ks true _ (HK.out.keep (below_then U0.out B3.out)) MK.out P1.out).mono ?_
  rintro r v4 ⟨rfl, hb⟩
  clear x0 x1 x2 x3 x4 x5 x6 x7 x8
  have B4 : Hid (Below u0.heap.size u0 v4) := below_then B3.out hb
  obtain ⟨⟨x0, x1, x2, x3, x4, x5, x6⟩, x7, x8⟩ := NM.out v4 B4.out
  have P4v : Hid (PageAt v4 p m0 m1 n0 d0 b04 b05 b06 (Pg.qk s0 d0 ks) (Pg.qv s1 vs)) := P3v.out.keep hb
  clear hb P3v
  go_wp2_with fail
  refine (shaped_any _ _ _ _ _ _ _ _ _ vs true _ (HV.out.keep (below_then U0.out B4.out)) MV.out P2.out).mono ?_
  rintro r v5 ⟨rfl, hb⟩
  clear x0 x1 x2 x3 x4 x5 x6 x7 x8
  have B5 : Hid (Below u0.heap.size u0 v5) := below_then B4.out hb
  obtain ⟨⟨x0, x1, x2, x3, x4, x5, x6⟩, x7, x8⟩ := NM.out v5 B5.out
  have P5v : Hid (PageAt v5 p m0 m1 n0 d0 b04 b05 b06 (Pg.qk s0 d0 ks) (Pg.qv s1 vs)) := P4v.out.keep hb
  clear hb P4v
  go_wp2_with fail
  clear x0 x1 x2 x3 x4 x5 x6 x7 x8
  have KS : Hid (∀ w', Below v5.heap.size v5 w' → (w'.cell? ⟨w.heap.size, 0, none⟩ = some (.int .i64 (m0 : Int)) ∧ w'.cell? ⟨w.heap.size, 1, none⟩ = some (.int .i64 (m1 : Int)) ∧ w'.cell? ⟨w.heap.size, 2, none⟩ = some (.int .i64 (n0 : Int)) ∧ w'.cell? ⟨w.heap.size, 3, none⟩ = some (.int .i64 (d0 : Int)) ∧ w'.cell? ⟨w.heap.size, 4, none⟩ = some (.int .i64 b04) ∧ w'.cell? ⟨w.heap.size, 5, none⟩ = some (.int .i64 b05) ∧ w'.cell? ⟨w.heap.size, 6, none⟩ = some (.int .i64 b06) ∧ w'.cell? ⟨w.heap.size, 7, none⟩ = some (.slice a07 ks.length cap07) ∧ w'.cell? ⟨w.heap.size, 8, none⟩ = some (.slice a08 vs.length cap08)) ∧ Hid (Below v5.heap.size v5 w')) := fun w' hb => by
    obtain ⟨⟨q0, q1, q2, q3, q4, q5, q6⟩, q7, q8⟩ := NM.out w' (below_then B5.out hb)
    exact ⟨⟨q0, q1, q2, q3, q4, q5, q6, q7, q8⟩, hb⟩
  have WW : Hid (Below w.heap.size w v5) := below_then U0.out B5.out
  go_region_held3 (fun w' => (w'.cell? ⟨w.heap.size, 0, none⟩ = some (.int .i64 (m0 : Int)) ∧ w'.cell? ⟨w.heap.size, 1, none⟩ = some (.int .i64 (m1 : Int)) ∧ w'.cell? ⟨w.heap.size, 2, none⟩ = some (.int .i64 (n0 : Int)) ∧ w'.cell? ⟨w.heap.size, 3, none⟩ = some (.int .i64 (d0 : Int)) ∧ w'.cell? ⟨w.heap.size, 4, none⟩ = some (.int .i64 b04) ∧ w'.cell? ⟨w.heap.size, 5, none⟩ = some (.int .i64 b05) ∧ w'.cell? ⟨w.heap.size, 6, none⟩ = some (.int .i64 b06) ∧ w'.cell? ⟨w.heap.size, 7, none⟩ = some (.slice a07 ks.length cap07) ∧ w'.cell? ⟨w.heap.size, 8, none⟩ = some (.slice a08 vs.length cap08)) ∧ Hid (Below v5.heap.size v5 w'))
    (first
      | exact KS.out _ ((Below.refl v5.heap.size v5).drew)
      | exact KS.out _ y4.out
      | exact KS.out _ y3.out
      | exact KS.out _ y2.out
      | exact KS.out _ y1.out
      | assumption)
    (first
      | (go_at_call 9; refine (head_any _ _ _ _ _ _ _ _).mono ?_; rintro e w1 ⟨rfl, hb⟩; have y1 : Hid (Below v5.heap.size v5 w1) := ((Below.refl v5.heap.size v5).drew).trans hb; clear hb)
      | (go_at_call 21; refine (refQuantize_any m0 m1 n0 d0 s0 s1 b04 b05 b06 _ _ _ _ ks vs _ ST0.out ST1.out (HK.out.keep (below_then WW.out y1.out)) (HV.out.keep (below_then WW.out y1.out)) IK.out IV.out NK.out.1 NV.out.1 c1 c2 c3 c4 NK.out.2 NV.out.2).mono ?_; rintro e w2 ⟨x7', e7', x8', e8', rfl, hg7, hg8, hb⟩; have y2 : Hid (Below v5.heap.size v5 w2) := below_then y1.out hb; have GG : Hid (Gps w2 x7' (Pg.qk s0 d0 ks) ∧ Gps w2 x8' (Pg.qv s1 vs)) := ⟨hg7, hg8⟩; clear hb hg7 hg8)
      | (go_at_call 14; refine (is_anym p m0 m1 n0 d0 b04 b05 b06 (Pg.qk s0 d0 ks) (Pg.qv s1 vs) _ _ _ _ _ _ _ (Pg.qk_length _ _ _).symm LQ.out (P5v.out.keep y2.out) GG.out.1 GG.out.2).mono ?_; rintro e w3 ⟨rfl, hb⟩; have y3 : Hid (Below v5.heap.size v5 w3) := below_then y2.out hb; clear hb)
      | (go_at_call 7; refine (pgAwake_any _).mono ?_; rintro e w4 ⟨rfl, hb⟩; have y4 : Hid (Below v5.heap.size v5 w4) := below_then y3.out hb; clear hb))
  go_wp2
  go_ret
  exact ⟨rfl, below_then WW.out y4.out⟩

set_option maxRecDepth 100000 in
set_option maxHeartbeats 3200000 in
theorem lifted (os : Os) (started : os.Started) (H : Type) (enc : TypeId × Value → H) :
    ReturnsInHanded {} Tryz.checked os 5 .any (Rows.pageQuantizesSpec.pre6 enc Tryz.prog Tryz.f5 Rows.pageQuantizesRow.domain false) (Rows.pageQuantizesSpec.post enc Tryz.prog Tryz.f5 false true false false) := by
  refine returnsInHanded_of_change (C := Tryz.checked) own started (by kernel_rfl) Tryz.func5
    (ChangeSpec.witness6 (enc := enc) (C := Tryz.checked) false ⟨#[], #[.agg #[.int .i64 0, .int .i64 0, .int .i64 0, .int .i64 0, .int .i64 0, .int .i64 0, .int .i64 0, .slice none 0 0, .slice none 0 0]], []⟩ 8 (by kernel_rfl) (by kernel_rfl) (by kernel_rfl) (by kernel_rfl)) ?_
  intro W base args ds gs before hval0 hW hcnd _
  have hval : ∀ (j : Nat) t v, Tryz.f5.params[j]? = some t → args[j]? = some v → Value.okWide Tryz.prog W .any base t v := hval0
  have hW' := hW
  obtain ⟨p, q, hA0, hV, rfl, hfz, hnd⟩ := hW
  have hA : DataW.TrodAll enc Tryz.prog W 0 (fun _ => true) true Tryz.f5.params.toList args.toList ds p := hA0
  rw [Tryz.params5] at hA hval
  obtain ⟨v0, vs0, d0, ds0, p0, q0, hargs, rfl, rfl, h0, r0⟩ := trodAll_cons hA
  obtain ⟨rfl, rfl, rfl⟩ := trodAll_nil r0
  obtain rfl : args = #[v0] := by cases args; simp_all
  obtain ⟨rfl, rfl⟩ := trodVars_none hV
  obtain ⟨cs0, rfl, hsz0⟩ := okWide_struct Tryz.underlying52 (hval 0 52 v0 rfl rfl)
  have k0 := h0
  have lt0 : ∀ x ∈ p0, x.block < W.heap.size := by obtain ⟨m, hm⟩ := k0; exact DataW.trod_lt m _ _ _ hm
  rw [show Tryz.prog.cellsOf 52 = 9 by kernel_rfl] at hsz0
  obtain ⟨c00, c01, c02, c03, c04, c05, c06, c07, c08, rfl⟩ := cells9 hsz0
  obtain ⟨fuel0, hf0⟩ := h0
  have hg0 : DataW.trod enc Tryz.prog W 0 (fun _ => true) true fuel0 52 [c00, c01, c02, c03, c04, c05, c06, c07, c08] = some _ := hf0
  obtain ⟨n0f, hn0f⟩ := open_wide Tryz.underlying52 hg0
  obtain ⟨y0f0, hhy0f0⟩ := hn0f 0 _ rfl
  have hy0f0 : DataW.trod enc Tryz.prog W 0 (fun _ => true) true n0f 23 [c00, c01, c02, c03, c04, c05, c06] = some y0f0 := by
    have e : Tryz.prog.cellsOf 23 = 7 := by kernel_rfl
    have h : DataW.trod enc Tryz.prog W 0 (fun _ => true) true n0f 23 ((([c00, c01, c02, c03, c04, c05, c06, c07, c08] : List Value).drop 0).take (Tryz.prog.cellsOf 23)) = some y0f0 := hhy0f0
    rw [e] at h
    exact h
  obtain ⟨n0f0x, hn0f0x⟩ := open_wide Tryz.underlying23 hy0f0
  obtain ⟨y0f0x0, hhy0f0x0⟩ := hn0f0x 0 _ rfl
  have hy0f0x0 : DataW.trod enc Tryz.prog W 0 (fun _ => true) true n0f0x 3 [c00] = some y0f0x0 := by
    have e : Tryz.prog.cellsOf 3 = 1 := by kernel_rfl
    have h : DataW.trod enc Tryz.prog W 0 (fun _ => true) true n0f0x 3 ((([c00, c01, c02, c03, c04, c05, c06] : List Value).drop 0).take (Tryz.prog.cellsOf 3)) = some y0f0x0 := hhy0f0x0
    rw [e] at h
    exact h
  obtain ⟨y0f0x1, hhy0f0x1⟩ := hn0f0x 1 _ rfl
  have hy0f0x1 : DataW.trod enc Tryz.prog W 0 (fun _ => true) true n0f0x 3 [c01] = some y0f0x1 := by
    have e : Tryz.prog.cellsOf 3 = 1 := by kernel_rfl
    have h : DataW.trod enc Tryz.prog W 0 (fun _ => true) true n0f0x 3 ((([c00, c01, c02, c03, c04, c05, c06] : List Value).drop 1).take (Tryz.prog.cellsOf 3)) = some y0f0x1 := hhy0f0x1
    rw [e] at h
    exact h
  obtain ⟨y0f0x2, hhy0f0x2⟩ := hn0f0x 2 _ rfl
  have hy0f0x2 : DataW.trod enc Tryz.prog W 0 (fun _ => true) true n0f0x 3 [c02] = some y0f0x2 := by
    have e : Tryz.prog.cellsOf 3 = 1 := by kernel_rfl
    have h : DataW.trod enc Tryz.prog W 0 (fun _ => true) true n0f0x 3 ((([c00, c01, c02, c03, c04, c05, c06] : List Value).drop 2).take (Tryz.prog.cellsOf 3)) = some y0f0x2 := hhy0f0x2
    rw [e] at h
    exact h
  obtain ⟨y0f0x3, hhy0f0x3⟩ := hn0f0x 3 _ rfl
  have hy0f0x3 : DataW.trod enc Tryz.prog W 0 (fun _ => true) true n0f0x 3 [c03] = some y0f0x3 := by
    have e : Tryz.prog.cellsOf 3 = 1 := by kernel_rfl
    have h : DataW.trod enc Tryz.prog W 0 (fun _ => true) true n0f0x 3 ((([c00, c01, c02, c03, c04, c05, c06] : List Value).drop 3).take (Tryz.prog.cellsOf 3)) = some y0f0x3 := hhy0f0x3
    rw [e] at h
    exact h
  obtain ⟨y0f0x4, hhy0f0x4⟩ := hn0f0x 4 _ rfl
  have hy0f0x4 : DataW.trod enc Tryz.prog W 0 (fun _ => true) true n0f0x 3 [c04] = some y0f0x4 := by
    have e : Tryz.prog.cellsOf 3 = 1 := by kernel_rfl
    have h : DataW.trod enc Tryz.prog W 0 (fun _ => true) true n0f0x 3 ((([c00, c01, c02, c03, c04, c05, c06] : List Value).drop 4).take (Tryz.prog.cellsOf 3)) = some y0f0x4 := hhy0f0x4
    rw [e] at h
    exact h
  obtain ⟨y0f0x5, hhy0f0x5⟩ := hn0f0x 5 _ rfl
  have hy0f0x5 : DataW.trod enc Tryz.prog W 0 (fun _ => true) true n0f0x 3 [c05] = some y0f0x5 := by
    have e : Tryz.prog.cellsOf 3 = 1 := by kernel_rfl
    have h : DataW.trod enc Tryz.prog W 0 (fun _ => true) true n0f0x 3 ((([c00, c01, c02, c03, c04, c05, c06] : List Value).drop 5).take (Tryz.prog.cellsOf 3)) = some y0f0x5 := hhy0f0x5
    rw [e] at h
    exact h
  obtain ⟨y0f0x6, hhy0f0x6⟩ := hn0f0x 6 _ rfl
  have hy0f0x6 : DataW.trod enc Tryz.prog W 0 (fun _ => true) true n0f0x 3 [c06] = some y0f0x6 := by
    have e : Tryz.prog.cellsOf 3 = 1 := by kernel_rfl
    have h : DataW.trod enc Tryz.prog W 0 (fun _ => true) true n0f0x 3 ((([c00, c01, c02, c03, c04, c05, c06] : List Value).drop 6).take (Tryz.prog.cellsOf 3)) = some y0f0x6 := hhy0f0x6
    rw [e] at h
    exact h
  obtain ⟨y0f1, hhy0f1⟩ := hn0f 1 _ rfl
  have hy0f1 : DataW.trod enc Tryz.prog W 0 (fun _ => true) true n0f 50 [c07] = some y0f1 := by
    have e : Tryz.prog.cellsOf 50 = 1 := by kernel_rfl
    have h : DataW.trod enc Tryz.prog W 0 (fun _ => true) true n0f 50 ((([c00, c01, c02, c03, c04, c05, c06, c07, c08] : List Value).drop 7).take (Tryz.prog.cellsOf 50)) = some y0f1 := hhy0f1
    rw [e] at h
    exact h
  obtain ⟨y0f2, hhy0f2⟩ := hn0f 2 _ rfl
  have hy0f2 : DataW.trod enc Tryz.prog W 0 (fun _ => true) true n0f 50 [c08] = some y0f2 := by
    have e : Tryz.prog.cellsOf 50 = 1 := by kernel_rfl
    have h : DataW.trod enc Tryz.prog W 0 (fun _ => true) true n0f 50 ((([c00, c01, c02, c03, c04, c05, c06, c07, c08] : List Value).drop 8).take (Tryz.prog.cellsOf 50)) = some y0f2 := hhy0f2
    rw [e] at h
    exact h
  obtain ⟨b00, e00, _, w00⟩ := DataW.trod_int Tryz.underlying3 hy0f0x0
  simp only [List.cons.injEq, and_true] at e00
  subst e00
  obtain ⟨b01, e01, _, w01⟩ := DataW.trod_int Tryz.underlying3 hy0f0x1
  simp only [List.cons.injEq, and_true] at e01
  subst e01
  obtain ⟨b02, e02, _, w02⟩ := DataW.trod_int Tryz.underlying3 hy0f0x2
  simp only [List.cons.injEq, and_true] at e02
  subst e02
  obtain ⟨b03, e03, _, w03⟩ := DataW.trod_int Tryz.underlying3 hy0f0x3
  simp only [List.cons.injEq, and_true] at e03
  subst e03
  obtain ⟨b04, e04, _, w04⟩ := DataW.trod_int Tryz.underlying3 hy0f0x4
  simp only [List.cons.injEq, and_true] at e04
  subst e04
  obtain ⟨b05, e05, _, w05⟩ := DataW.trod_int Tryz.underlying3 hy0f0x5
  simp only [List.cons.injEq, and_true] at e05
  subst e05
  obtain ⟨b06, e06, _, w06⟩ := DataW.trod_int Tryz.underlying3 hy0f0x6
  simp only [List.cons.injEq, and_true] at e06
  subst e06
  obtain ⟨a07, len07, cap07, e07, w07⟩ : ∃ a len cap, c07 = .slice a len cap ∧ IsTable W a len cap := by
    rcases Go.Deep.open_int_rows Tryz.underlying50 Tryz.underlying62 Tryz.underlying21 (by kernel_rfl) (by kernel_rfl) hy0f1 with ⟨hcs, _⟩ | ⟨x, l, c, A, L, C, Z, hcs, _, hl, hm, _, hr⟩
    · simp only [List.cons.injEq, and_true] at hcs
      exact ⟨none, 0, 0, hcs, .inl ⟨rfl, rfl, rfl⟩⟩
    · simp only [List.cons.injEq, and_true] at hcs
      refine ⟨some x, l, c, hcs, .inr ⟨x, A, L, C, Z, rfl, hl, hm, fun r hr' => ?_⟩⟩
      obtain ⟨q1, q2, q3, q4, q5, q6, q7⟩ := hr r hr'
      exact ⟨q1, q2, q3, q4, q5, q6, fun a' ha => (q7 a' ha).2⟩
  subst e07
  obtain ⟨a08, len08, cap08, e08, w08⟩ : ∃ a len cap, c08 = .slice a len cap ∧ IsTable W a len cap := by
    rcases Go.Deep.open_int_rows Tryz.underlying50 Tryz.underlying62 Tryz.underlying21 (by kernel_rfl) (by kernel_rfl) hy0f2 with ⟨hcs, _⟩ | ⟨x, l, c, A, L, C, Z, hcs, _, hl, hm, _, hr⟩
    · simp only [List.cons.injEq, and_true] at hcs
      exact ⟨none, 0, 0, hcs, .inl ⟨rfl, rfl, rfl⟩⟩
    · simp only [List.cons.injEq, and_true] at hcs
      refine ⟨some x, l, c, hcs, .inr ⟨x, A, L, C, Z, rfl, hl, hm, fun r hr' => ?_⟩⟩
      obtain ⟨q1, q2, q3, q4, q5, q6, q7⟩ := hr r hr'
      exact ⟨q1, q2, q3, q4, q5, q6, fun a' ha => (q7 a' ha).2⟩
  subst e08
  clear hA0 hval0
  refine (walk b00 b01 b02 b03 b04 b05 b06 a07 len07 cap07 a08 len08 cap08 W w00 w01 w02 w03 w04 w05 w06 w07 w08).mono fun e W' ⟨he, bel⟩ => ?_
  subst he
  exact ⟨_, rfl, _, _, _, [], _, [], hW', trodAll_mk1 (shut_bool Tryz.underlying4 _), (trodAll_cons_mk (Below.trod laidOut (by kernel_rfl) (of_decide_eq_true (by kernel_rfl)) k0 bel lt0) trodAll_mk0), rfl, bel.frame _, fun h => by cases h⟩

theorem over : Rows.pageQuantizesRow.holds Tryz.pinned (OpenSpec.ofChange Rows.pageQuantizesSpec) :=
  OpenClaim.holds_of_wide 5 Tryz.f5 rfl rfl rfl rfl rfl rfl rfl ⟨rfl, rfl, rfl, rfl, rfl⟩ rfl rfl rfl rfl rfl (by kernel_rfl) Tryz.func5 (by kernel_rfl)
    (of_decide_eq_true (by kernel_rfl)) (by unfold Func.isWrapper; first | (rw [if_pos (by decide +kernel)]; kernel_rfl) | (rw [if_neg (by decide +kernel)]; exact ⟨rfl, rfl⟩))
    (fun os started H enc _ => lifted os started H enc)

theorem proved : Rows.PageQuantizesSaid := over
end Go.Proofs.YtgfaehhkbkfmhaaGreat.pageQuantizes

namespace Go.Proofs.YtgfaehhkbkfmhaaGreat
theorem pageQuantizes_holds : Rows.PageQuantizesSaid := pageQuantizes.proved
#print axioms pageQuantizes_holds
end Go.Proofs.YtgfaehhkbkfmhaaGreat
