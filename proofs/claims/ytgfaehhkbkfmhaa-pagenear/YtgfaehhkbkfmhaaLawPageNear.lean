/- PageNear (layer 8): for every input: what a page means is no further from each key, and each value, than half of its scale; no conditions beyond the row's own. -/
import Derived.Test.YtgfaehhkbkfmhaaRows
import Derived.Test.YtgfaehhkbkfmhaaPaB
import Derived.WalkKit
import Derived.ProofKit
import Derived.OpenShut
import Derived.ShutString
import Derived.ChangeOld
import Derived.Below
namespace Go.Proofs.Ytgfaehhkbkfmhaa.pageNear
open Go.ChangeShapes Go.WideShapes Go.ChangeAt Go.RowKit
set_option linter.unusedVariables false

theorem own : ownKnob Try.prog.godebug = none := by kernel_rfl
theorem laidOut : laidOutB Try.prog = true := by kernel_rfl

/-- What the walk is told of a slice of integers that came in. -/
def IsRow (k : IntKind) (w : World) (a : Option Addr) (len cap : Nat) (zs : List Int) : Prop :=
  (a = none ∧ len = 0 ∧ cap = 0 ∧ zs = []) ∨
  ∃ x, a = some x ∧ len ≤ cap ∧ cap ≤ maxLen ∧ zs.length = cap ∧ (∀ i, i < zs.length → w.cell? (x.add i) = some (.int k (zs.getD i 0))) ∧ ∀ n ∈ zs, (Lit.int k n).wf = true

set_option maxRecDepth 100000 in
set_option maxHeartbeats 3200000 in
theorem walk (b00 : Int) (b01 : Int) (b02 : Int) (b03 : Int) (b04 : Int) (b05 : Int) (b06 : Int) (a07 : Option Addr) (len07 cap07 : Nat) (a08 : Option Addr) (len08 cap08 : Nat) (w : World) (w00 : (Lit.int .i64 b00).wf = true) (w01 : (Lit.int .i64 b01).wf = true) (w02 : (Lit.int .i64 b02).wf = true) (w03 : (Lit.int .i64 b03).wf = true) (w04 : (Lit.int .i64 b04).wf = true) (w05 : (Lit.int .i64 b05).wf = true) (w06 : (Lit.int .i64 b06).wf = true) (w07 : IsTable w a07 len07 cap07) (w08 : IsTable w a08 len08 cap08) :
    Calls Try.prog 3 #[.agg #[.int .i64 b00, .int .i64 b01, .int .i64 b02, .int .i64 b03, .int .i64 b04, .int .i64 b05, .int .i64 b06, .slice a07 len07 cap07, .slice a08 len08 cap08]] w fun e w' => e = .returned (.bool true) ∧ Below w.heap.size w w' := by
  -- depth
  obtain ⟨ks, hk, TK, IK0, MK0, _⟩ := table_open w07
  obtain ⟨vs, hv, TV, IV0, MV0, _⟩ := table_open w08
  subst hk
  subst hv
  have HK : Hid (Tbl w a07 ks) := TK
  have HV : Hid (Tbl w a08 vs) := TV
  have IK : Hid (∀ k, Ls.In32 (Tb.row ks k)) := IK0
  have IV : Hid (∀ k, Ls.In32 (Tb.row vs k)) := IV0
  have MK : Hid (ks.length ≤ maxLen) := MK0
  have MV : Hid (vs.length ≤ maxLen) := MV0
  clear w00 w01 w02 w03 w04 w05 w06 w07 w08 TK TV IK0 IV0 MK0 MV0
  obtain ⟨q, eq⟩ : ∃ q, Pg.rightH [b00, b01, b02, b03, b04, b05, b06] = q := ⟨_, rfl⟩
  obtain ⟨p1, ep1⟩ : ∃ p, Pg.shapedB ks b02 b03 = p := ⟨_, rfl⟩
  obtain ⟨p2, ep2⟩ : ∃ p, Pg.shapedB vs b02 b03 = p := ⟨_, rfl⟩
  have EQ : Hid (Pg.rightH [b00, b01, b02, b03, b04, b05, b06] = q) := eq
  have P1 : Hid (Pg.shapedB ks b02 b03 = p1) := ep1
  have P2 : Hid (Pg.shapedB vs b02 b03 = p2) := ep2
  clear eq ep1 ep2
  cases q
  · go_enter Try.func3, Try.ntmps3
    go_wp2_with fail
    obtain ⟨u0, hu0⟩ : ∃ u, w.alloc (.cells #[.int .i64 b00, .int .i64 b01, .int .i64 b02, .int .i64 b03, .int .i64 b04, .int .i64 b05, .int .i64 b06, .slice a07 ks.length cap07, .slice a08 vs.length cap08] 26) = u := ⟨_, rfl⟩
    have U0 : Hid (Below w.heap.size w u0) := by rw [← hu0]; exact box_below _ _
    have NM : Hid (∀ v, Below u0.heap.size u0 v → NmAt v w.heap.size b00 b01 b02 b03 b04 b05 b06 (.slice a07 ks.length cap07) (.slice a08 vs.length cap08)) := by rw [← hu0]; exact fun v hb => nm_box hb
    have hu1 : w.heap.size < u0.heap.size := by rw [← hu0]; simp
    rw [hu0]
    clear hu0
    refine (head_any _ _ _ _ _ _ _ _).mono ?_
    rintro r v1 ⟨rfl, hb⟩
    have B1 : Hid (Below u0.heap.size u0 v1) := hb
    clear hb
    go_wp2_with fail
    refine (refRightH_any _ _ _ _ _ _ _ false EQ.out _).mono ?_
    rintro r v2 ⟨rfl, hb⟩
    have B2 : Hid (Below u0.heap.size u0 v2) := below_then B1.out hb
    obtain ⟨⟨x0, x1, x2, x3, x4, x5, x6⟩, x7, x8⟩ := NM.out v2 B2.out
    clear hb
    go_wp2_with (go_at_call 9; refine (pgAwake_any _).mono ?_; rintro r va ⟨rfl, hb⟩; have BA : Hid (Below w.heap.size w va) := below_then (below_then U0.out B2.out) hb; clear hb)
    go_ret
    exact ⟨rfl, BA.out⟩
  cases p1
  · go_enter Try.func3, Try.ntmps3
    go_wp2_with fail
    obtain ⟨u0, hu0⟩ : ∃ u, w.alloc (.cells #[.int .i64 b00, .int .i64 b01, .int .i64 b02, .int .i64 b03, .int .i64 b04, .int .i64 b05, .int .i64 b06, .slice a07 ks.length cap07, .slice a08 vs.length cap08] 26) = u := ⟨_, rfl⟩
    have U0 : Hid (Below w.heap.size w u0) := by rw [← hu0]; exact box_below _ _
    have NM : Hid (∀ v, Below u0.heap.size u0 v → NmAt v w.heap.size b00 b01 b02 b03 b04 b05 b06 (.slice a07 ks.length cap07) (.slice a08 vs.length cap08)) := by rw [← hu0]; exact fun v hb => nm_box hb
    have hu1 : w.heap.size < u0.heap.size := by rw [← hu0]; simp
    rw [hu0]
    clear hu0
    refine (head_any _ _ _ _ _ _ _ _).mono ?_
    rintro r v1 ⟨rfl, hb⟩
    have B1 : Hid (Below u0.heap.size u0 v1) := hb
    clear hb
    go_wp2_with fail
    refine (refRightH_any _ _ _ _ _ _ _ true EQ.out _).mono ?_
    rintro r v2 ⟨rfl, hb⟩
    have B2 : Hid (Below u0.heap.size u0 v2) := below_then B1.out hb
    obtain ⟨⟨x0, x1, x2, x3, x4, x5, x6⟩, x7, x8⟩ := NM.out v2 B2.out
    clear hb
    go_wp2_with fail
    refine (shaped_any _ _ _ _ _ _ _ _ _ ks false _ (HK.out.keep (below_then U0.out B2.out)) MK.out P1.out).mono ?_
    rintro r v3 ⟨rfl, hb⟩
    have B3 : Hid (Below u0.heap.size u0 v3) := below_then B2.out hb
    clear x0 x1 x2 x3 x4 x5 x6 x7 x8
    obtain ⟨⟨x0, x1, x2, x3, x4, x5, x6⟩, x7, x8⟩ := NM.out v3 B3.out
    clear hb
    go_wp2_with (go_at_call 9; refine (pgAwake_any _).mono ?_; rintro r va ⟨rfl, hb⟩; have BA : Hid (Below w.heap.size w va) := below_then (below_then U0.out B3.out) hb; clear hb)
    go_ret
    exact ⟨rfl, BA.out⟩
  cases p2
  · go_enter Try.func3, Try.ntmps3
    go_wp2_with fail
    obtain ⟨u0, hu0⟩ : ∃ u, w.alloc (.cells #[.int .i64 b00, .int .i64 b01, .int .i64 b02, .int .i64 b03, .int .i64 b04, .int .i64 b05, .int .i64 b06, .slice a07 ks.length cap07, .slice a08 vs.length cap08] 26) = u := ⟨_, rfl⟩
    have U0 : Hid (Below w.heap.size w u0) := by rw [← hu0]; exact box_below _ _
    have NM : Hid (∀ v, Below u0.heap.size u0 v → NmAt v w.heap.size b00 b01 b02 b03 b04 b05 b06 (.slice a07 ks.length cap07) (.slice a08 vs.length cap08)) := by rw [← hu0]; exact fun v hb => nm_box hb
    have hu1 : w.heap.size < u0.heap.size := by rw [← hu0]; simp
    rw [hu0]
    clear hu0
    refine (head_any _ _ _ _ _ _ _ _).mono ?_
    rintro r v1 ⟨rfl, hb⟩
    have B1 : Hid (Below u0.heap.size u0 v1) := hb
    clear hb
    go_wp2_with fail
    refine (refRightH_any _ _ _ _ _ _ _ true EQ.out _).mono ?_
    rintro r v2 ⟨rfl, hb⟩
    have B2 : Hid (Below u0.heap.size u0 v2) := below_then B1.out hb
    obtain ⟨⟨x0, x1, x2, x3, x4, x5, x6⟩, x7, x8⟩ := NM.out v2 B2.out
    clear hb
    go_wp2_with fail
    refine (shaped_any _ _ _ _ _ _ _ _ _ ks true _ (HK.out.keep (below_then U0.out B2.out)) MK.out P1.out).mono ?_
    rintro r v3 ⟨rfl, hb⟩
    have B3 : Hid (Below u0.heap.size u0 v3) := below_then B2.out hb
    clear x0 x1 x2 x3 x4 x5 x6 x7 x8
    obtain ⟨⟨x0, x1, x2, x3, x4, x5, x6⟩, x7, x8⟩ := NM.out v3 B3.out
    clear hb
    go_wp2_with fail
    refine (shaped_any _ _ _ _ _ _ _ _ _ vs false _ (HV.out.keep (below_then U0.out B3.out)) MV.out P2.out).mono ?_
    rintro r v4 ⟨rfl, hb⟩
    have B4 : Hid (Below u0.heap.size u0 v4) := below_then B3.out hb
    clear x0 x1 x2 x3 x4 x5 x6 x7 x8
    obtain ⟨⟨x0, x1, x2, x3, x4, x5, x6⟩, x7, x8⟩ := NM.out v4 B4.out
    clear hb
    go_wp2_with (go_at_call 9; refine (pgAwake_any _).mono ?_; rintro r va ⟨rfl, hb⟩; have BA : Hid (Below w.heap.size w va) := below_then (below_then U0.out B4.out) hb; clear hb)
    go_ret
    exact ⟨rfl, BA.out⟩
  obtain ⟨m0, m1, n0, d0, rfl, rfl, rfl, rfl⟩ := Pg.right_nats EQ.out
  obtain ⟨qa, qb, qc, qd, qe, qf, _⟩ := Pg.rightH_all EQ.out
  obtain ⟨s0, st0⟩ := Pg.okB_nat (m := m0) qa
  obtain ⟨s1, st1⟩ := Pg.okB_nat (m := m1) qb
  have c1 : 1 ≤ n0 := by have : (1 : Int) ≤ n0 := qc; omega
  have c2 : n0 ≤ 16 := by have : (n0 : Int) ≤ 16 := qd; omega
  have c3 : 1 ≤ d0 := by have : (1 : Int) ≤ d0 := qe; omega
  have c4 : d0 ≤ 16 := by have : (d0 : Int) ≤ 16 := qf; omega
  have ST0 : Hid (Gp.St m0 s0) := st0
  have ST1 : Hid (Gp.St m1 s1) := st1
  have NK : Hid (ks.length = n0 ∧ ∀ k, k < ks.length → (Tb.row ks k).length = d0) := Pg.shapedB_all P1.out
  have NV : Hid (vs.length = n0 ∧ ∀ k, k < vs.length → (Tb.row vs k).length = d0) := Pg.shapedB_all P2.out
  obtain ⟨N, eN⟩ : ∃ N, Pg.psize [(m0 : Int), m1, n0, d0, b04, b05, b06] = N := ⟨_, rfl⟩
  have HN : Hid (Pg.psize [(m0 : Int), m1, n0, d0, b04, b05, b06] = N) := eN
  have hN1 : N ≤ 781 := by rw [← eN]; exact Pg.psize_le EQ.out
  clear qa qb qc qd qe qf st0 st1 eN
  go_enter Try.func3, Try.ntmps3
  go_wp2_with fail
  obtain ⟨u0, hu0⟩ : ∃ u, w.alloc (.cells #[.int .i64 (m0 : Int), .int .i64 (m1 : Int), .int .i64 (n0 : Int), .int .i64 (d0 : Int), .int .i64 b04, .int .i64 b05, .int .i64 b06, .slice a07 ks.length cap07, .slice a08 vs.length cap08] 26) = u := ⟨_, rfl⟩
  have U0 : Hid (Below w.heap.size w u0) := by rw [← hu0]; exact box_below _ _
  have NM : Hid (∀ v, Below u0.heap.size u0 v → NmAt v w.heap.size m0 m1 n0 d0 b04 b05 b06 (.slice a07 ks.length cap07) (.slice a08 vs.length cap08)) := by rw [← hu0]; exact fun v hb => nm_box hb
  have hu1 : w.heap.size < u0.heap.size := by rw [← hu0]; simp
  rw [hu0]
  clear hu0
  refine (head_any _ _ _ _ _ _ _ _).mono ?_
  rintro r v1 ⟨rfl, hb⟩
  have B1 : Hid (Below u0.heap.size u0 v1) := hb
  clear hb
  go_wp2_with fail
  refine (refRightH_any _ _ _ _ _ _ _ true EQ.out _).mono ?_
  rintro r v2 ⟨rfl, hb⟩
  have B2 : Hid (Below u0.heap.size u0 v2) := below_then B1.out hb
  obtain ⟨⟨x0, x1, x2, x3, x4, x5, x6⟩, x7, x8⟩ := NM.out v2 B2.out
  clear hb
  go_wp2_with fail
  refine (shaped_any _ _ _ _ _ _ _ _ _ ks true _ (HK.out.keep (below_then U0.out B2.out)) MK.out P1.out).mono ?_
  rintro r v3 ⟨rfl, hb⟩
  have B3 : Hid (Below u0.heap.size u0 v3) := below_then B2.out hb
  clear x0 x1 x2 x3 x4 x5 x6 x7 x8
  obtain ⟨⟨x0, x1, x2, x3, x4, x5, x6⟩, x7, x8⟩ := NM.out v3 B3.out
  clear hb
  go_wp2_with fail
  refine (shaped_any _ _ _ _ _ _ _ _ _ vs true _ (HV.out.keep (below_then U0.out B3.out)) MV.out P2.out).mono ?_
  rintro r v4 ⟨rfl, hb⟩
  have B4 : Hid (Below u0.heap.size u0 v4) := below_then B3.out hb
  clear x0 x1 x2 x3 x4 x5 x6 x7 x8
  obtain ⟨⟨x0, x1, x2, x3, x4, x5, x6⟩, x7, x8⟩ := NM.out v4 B4.out
  clear hb
  go_wp2_with fail
  refine (quantP_ok m0 m1 n0 d0 s0 s1 b04 b05 b06 _ _ _ _ ks vs _ ST0.out ST1.out (HK.out.keep (below_then U0.out B4.out)) (HV.out.keep (below_then U0.out B4.out)) IK.out IV.out EQ.out P1.out P2.out).mono ?_
  rintro r v5 ⟨p, rfl, hp, hpa, hb⟩
  have B5 : Hid (Below u0.heap.size u0 v5) := below_then B4.out hb
  have PA : Hid (PageAt v5 p m0 m1 n0 d0 b04 b05 b06 (Pg.qk s0 d0 ks) (Pg.qv s1 vs)) := hpa
  have hps : u0.heap.size ≤ p := Nat.le_trans B4.out.size hp
  clear hb hp hpa x0 x1 x2 x3 x4 x5 x6 x7 x8
  have PG : Hid (Pg.Page [(m0 : Int), m1, n0, d0, b04, b05, b06] (Pg.qk s0 d0 ks) (Pg.qv s1 vs)) := PA.out.page
  go_wp2_with fail
  refine (keyGroups_any p m0 m1 n0 d0 b04 b05 b06 _ _ _ PA.out).mono ?_
  rintro r v6 ⟨k1, rfl, _, hu, hb⟩
  have B6 : Hid (Below u0.heap.size u0 v6) := below_then B5.out hb
  have P6 : Hid (PageAt v6 p m0 m1 n0 d0 b04 b05 b06 (Pg.qk s0 d0 ks) (Pg.qv s1 vs)) := PA.out.keep hb
  have G6 : Hid (Gps v6 (some ⟨k1, 0, none⟩) (Pg.qk s0 d0 ks)) := hu.gps rfl
  clear hb hu PA
  go_wp2_with fail
  refine (valueGroups_any p m0 m1 n0 d0 b04 b05 b06 _ _ _ P6.out).mono ?_
  rintro r v7 ⟨k2, rfl, _, hu, hb⟩
  have B7 : Hid (Below u0.heap.size u0 v7) := below_then B6.out hb
  have P7 : Hid (PageAt v7 p m0 m1 n0 d0 b04 b05 b06 (Pg.qk s0 d0 ks) (Pg.qv s1 vs)) := P6.out.keep hb
  have G7 : Hid (Gps v7 (some ⟨k1, 0, none⟩) (Pg.qk s0 d0 ks) ∧ Gps v7 (some ⟨k2, 0, none⟩) (Pg.qv s1 vs)) := ⟨G6.out.keep hb, hu.gps rfl⟩
  have T7 : Hid (Tbl v7 a07 ks ∧ Tbl v7 a08 vs) := ⟨HK.out.keep (below_then U0.out B7.out), HV.out.keep (below_then U0.out B7.out)⟩
  clear hb hu P6 G6
  obtain ⟨⟨x0, x1, x2, x3, x4, x5, x6⟩, x7, x8⟩ := NM.out v7 B7.out
  have SB0 := ST0.out.bd
  have SB1 := ST1.out.bd
  go_wp2
  clear x0 x1 x2 x3 x4 x5 x6 x7 x8
  go_loopw [70] (fun i wr => ∃ t : Nat, t ≤ n0 ∧ i = .int .i64 t ∧ Below v7.heap.size v7 wr) (fun i _ => n0 - (intOf i).toNat)
  case atStart => exact ⟨0, Nat.zero_le _, rfl, Below.refl _ _⟩
  case round =>
    obtain ⟨t, ht, rfl, hbel⟩ := hrel
    have HW : Hid (Below v7.heap.size v7 wr) := hbel
    obtain ⟨⟨x0, x1, x2, x3, x4, x5, x6⟩, x7, x8⟩ := NM.out wr (below_then B7.out HW.out)
    clear hbel
    by_cases htl : t < n0
    · go_wp2
      clear x0 x1 x2 x3 x4 x5 x6 x7 x8
      go_loopw [76] (fun i wr => ∃ j : Nat, j ≤ d0 ∧ i = .int .i64 j ∧ Below v7.heap.size v7 wr) (fun i _ => d0 - (intOf i).toNat)
      case atStart => exact ⟨0, Nat.zero_le _, rfl, HW.out⟩
      case round =>
        clear HW
        obtain ⟨i, hi, rfl, hbel⟩ := hrel
        have HW : Hid (Below v7.heap.size v7 wr) := hbel
        clear hbel
        by_cases hil : i < d0
        · have hk0 : t < ks.length := by rw [NK.out.1]; exact htl
          have hv0 : t < vs.length := by rw [NV.out.1]; exact htl
          obtain ⟨bk, ok, ek, hck⟩ := T7.out.1.get hk0
          obtain ⟨Ak, Ck, ck1, ck2, _⟩ := hck t hk0
          obtain ⟨bv, ov, ev, hcv⟩ := T7.out.2.get hv0
          obtain ⟨Av, Cv, cv1, cv2, _⟩ := hcv t hv0
          rw [NK.out.2 t hk0] at ck1
          rw [NV.out.2 t hv0] at cv1
          obtain ⟨b2, o2, ek2, ck3⟩ := ck2.get (show i < (Tb.row ks t).length by rw [NK.out.2 t hk0]; exact hil)
          obtain ⟨b3, o3, ev2, cv3⟩ := cv2.get (show i < (Tb.row vs t).length by rw [NV.out.2 t hv0]; exact hil)
          have ck4 := ck3 i (by rw [NK.out.2 t hk0]; exact hil)
          have cv4 := cv3 i (by rw [NV.out.2 t hv0]; exact hil)
          subst ek ev ek2 ev2
          obtain ⟨kx, ekx⟩ : ∃ y, Ls.nth (Tb.row ks t) i = y := ⟨_, rfl⟩
          obtain ⟨vx, evx⟩ : ∃ y, Ls.nth (Tb.row vs t) i = y := ⟨_, rfl⟩
          have ik := IK.out t i
          have iv := IV.out t i
          rw [ekx] at ck4 ik
          rw [evx] at cv4 iv
          obtain ⟨X, eX⟩ : ∃ y, Pg.keyAt (Pg.qk s0 d0 ks) t i = y := ⟨_, rfl⟩
          obtain ⟨Y, eY⟩ : ∃ y, Pg.valAt (Pg.qv s1 vs) t i = y := ⟨_, rfl⟩
          obtain ⟨gk, egk⟩ : ∃ y, Pg.gs (Pg.nth (Pg.qk s0 d0 ks) i) = y := ⟨_, rfl⟩
          obtain ⟨gv, egv⟩ : ∃ y, Pg.gs (Pg.nth (Pg.qv s1 vs) t) = y := ⟨_, rfl⟩
          have nk := Pg.near_key (s := (s0 : Int)) (d := d0) (i := i) (k := t) IK.out (by omega) hil hk0
          have nv := Pg.near_val (s := (s1 : Int)) (i := i) (k := t) IV.out (by omega) hv0 (by rw [NV.out.2 t hv0]; exact hil)
          unfold Pg.keyAt at eX
          unfold Pg.valAt at eY
          rw [eX, egk, ekx] at nk
          rw [eY, egv, evx] at nv
          have EX : Hid (Pg.keyAt (Pg.qk s0 d0 ks) t i = X) := eX
          have EY : Hid (Pg.valAt (Pg.qv s1 vs) t i = Y) := eY
          have lq : (Pg.qk s0 d0 ks).length = d0 := Pg.qk_length _ _ _
          have lv : (Pg.qv s1 vs).length = vs.length := Pg.qv_length _ _
          have rk : Gp.right (s0 : Int) (Pg.gs (Pg.nth (Pg.qk s0 d0 ks) i)) (Pg.gc (Pg.nth (Pg.qk s0 d0 ks) i)) = 0 := by rw [Pg.nth_qk hil]; exact Pg.grp_right (Pg.col_in IK.out i) (by omega)
          have rv : Gp.right (s1 : Int) (Pg.gs (Pg.nth (Pg.qv s1 vs) t)) (Pg.gc (Pg.nth (Pg.qv s1 vs) t)) = 0 := by rw [Pg.nth_qv hv0]; exact Pg.grp_right (IV.out t) (by omega)
          have bk1 := (PG.out.2.2.2.2.1 i (by rw [lq]; exact hil)).2.2.2.2
          have bv1 := (PG.out.2.2.2.2.2.1 t (by rw [lv]; exact hv0)).2.2.2.2
          rw [egk] at bk1
          rw [egv] at bv1
          obtain ⟨bg1, og1, eg1, hg1⟩ := G7.out.1.get (show i < (Pg.qk s0 d0 ks).length by rw [lq]; exact hil)
          obtain ⟨p1, r1, gp1⟩ := hg1 i (by rw [lq]; exact hil)
          obtain ⟨bg2, og2, eg2, hg2⟩ := G7.out.2.get (show t < (Pg.qv s1 vs).length by rw [lv]; exact hv0)
          obtain ⟨p2, r2, gp2⟩ := hg2 t (by rw [lv]; exact hv0)
          simp at eg1 eg2
          obtain ⟨rfl, rfl⟩ := eg1
          obtain ⟨rfl, rfl⟩ := eg2
          have GC1 : Hid (v7.cell? ⟨k1, i * 3 + 1, none⟩ = some (.int .u32 gk)) := by have := gp1.2.1; rw [egk, Nat.zero_add] at this; exact this
          have GC2 : Hid (v7.cell? ⟨k2, t * 3 + 1, none⟩ = some (.int .u32 gv)) := by have := gp2.2.1; rw [egv, Nat.zero_add] at this; exact this
          have KK : Hid (∀ w', Below v7.heap.size v7 w' → (w'.cell? ⟨w.heap.size, 7, none⟩ = some (.slice (some ⟨bk, ok, none⟩) ks.length cap07) ∧ w'.cell? ⟨bk, ok + t, none⟩ = some (.slice (some ⟨b2, o2, none⟩) d0 Ck) ∧ w'.cell? ⟨b2, o2 + i, none⟩ = some (.int .i32 kx)) ∧ (w'.cell? ⟨w.heap.size, 8, none⟩ = some (.slice (some ⟨bv, ov, none⟩) vs.length cap08) ∧ w'.cell? ⟨bv, ov + t, none⟩ = some (.slice (some ⟨b3, o3, none⟩) d0 Cv) ∧ w'.cell? ⟨b3, o3 + i, none⟩ = some (.int .i32 vx)) ∧ w'.cell? ⟨k1, i * 3 + 1, none⟩ = some (.int .u32 gk) ∧ w'.cell? ⟨k2, t * 3 + 1, none⟩ = some (.int .u32 gv)) := fun w' hb => by
            obtain ⟨_, n7, n8⟩ := NM.out w' (below_then B7.out hb)
            refine ⟨⟨n7, ?_, ?_⟩, ⟨n8, ?_, ?_⟩, ?_, ?_⟩
            · rw [hb.cell (p := ⟨bk, ok + t, none⟩) (World.block_lt_of_cell? v7 _ ck1)]; exact ck1
            · rw [hb.cell (p := ⟨b2, o2 + i, none⟩) (World.block_lt_of_cell? v7 _ ck4)]; exact ck4
            · rw [hb.cell (p := ⟨bv, ov + t, none⟩) (World.block_lt_of_cell? v7 _ cv1)]; exact cv1
            · rw [hb.cell (p := ⟨b3, o3 + i, none⟩) (World.block_lt_of_cell? v7 _ cv4)]; exact cv4
            · rw [hb.cell (p := ⟨k1, i * 3 + 1, none⟩) (World.block_lt_of_cell? v7 _ GC1.out)]; exact GC1.out
            · rw [hb.cell (p := ⟨k2, t * 3 + 1, none⟩) (World.block_lt_of_cell? v7 _ GC2.out)]; exact GC2.out
          have w1 : IntKind.i64.wrap (X - kx) = X - kx := by rw [IntKind.wrap_i64]; omega
          have w2 : IntKind.i64.wrap (2 * (X - kx)) = 2 * (X - kx) := by rw [IntKind.wrap_i64]; omega
          have w3 : IntKind.i64.wrap (Y - vx) = Y - vx := by rw [IntKind.wrap_i64]; omega
          have w4 : IntKind.i64.wrap (2 * (Y - vx)) = 2 * (Y - vx) := by rw [IntKind.wrap_i64]; omega
          have w5 : IntKind.i64.wrap X = X := by rw [IntKind.wrap_i64]; omega
          have w6 : IntKind.i64.wrap Y = Y := by rw [IntKind.wrap_i64]; omega
          have w7 : IntKind.i64.wrap kx = kx := by rw [IntKind.wrap_i64]; omega
          have w8 : IntKind.i64.wrap vx = vx := by rw [IntKind.wrap_i64]; omega
          have t1 : decide (gk < 2 * (X - kx)) = false := decide_eq_false (by omega)
          have t2 : decide (gk < -(2 * (X - kx))) = false := decide_eq_false (by omega)
          have t3 : decide (gv < 2 * (Y - vx)) = false := decide_eq_false (by omega)
          have t4 : decide (gv < -(2 * (Y - vx))) = false := decide_eq_false (by omega)
          have e0 : (0 : Int) ≤ (t : Int) := by omega
          have e1 : (t : Int) < (ks.length : Int) := by omega
          have e2 : (t : Int) < (vs.length : Int) := by omega
          have e3 : (0 : Int) ≤ (i : Int) := by omega
          have e4 : (i : Int) < (d0 : Int) := by omega
          have e5 : (t : Int) < (n0 : Int) := by omega
          have KS : Hid (∀ w', Below wr.heap.size wr w' → (w'.cell? ⟨w.heap.size, 7, none⟩ = some (.slice (some ⟨bk, ok, none⟩) ks.length cap07) ∧ w'.cell? ⟨bk, ok + t, none⟩ = some (.slice (some ⟨b2, o2, none⟩) d0 Ck) ∧ w'.cell? ⟨b2, o2 + i, none⟩ = some (.int .i32 kx)) ∧ Hid (Below wr.heap.size wr w')) := fun w' hb => ⟨(KK.out w' (below_then HW.out hb)).1, hb⟩
          clear gp1 gp2 hg1 hg2 rk rv lq lv egk egv ekx evx ck1 ck2 ck3 ck4 cv1 cv2 cv3 cv4 hck hcv GC1 GC2 hk0 hv0 eX eY
          go_wp2
          go_region_held3 (fun w' => (w'.cell? ⟨w.heap.size, 7, none⟩ = some (.slice (some ⟨bk, ok, none⟩) ks.length cap07) ∧ w'.cell? ⟨bk, ok + t, none⟩ = some (.slice (some ⟨b2, o2, none⟩) d0 Ck) ∧ w'.cell? ⟨b2, o2 + i, none⟩ = some (.int .i32 kx)) ∧ Hid (Below wr.heap.size wr w'))
            (first
              | exact KS.out _ ((Below.refl wr.heap.size wr).drew)
              | exact KS.out _ z1.out
              | assumption)
            (first
              | (go_at_call 13; refine (keyP_any p m0 m1 n0 d0 b04 b05 b06 _ _ t i X _ (P7.out.keep (below_then HW.out ((Below.refl wr.heap.size wr).drew))) htl hil EX.out).mono ?_; rintro e w1' ⟨rfl, hb⟩; have z1 : Hid (Below wr.heap.size wr w1') := ((Below.refl wr.heap.size wr).drew).trans hb; clear hb))
          have HW2 : Hid (Below v7.heap.size v7 w1') := below_then HW.out z1.out
          have KV : Hid (∀ w', Below w1'.heap.size w1' w' → (w'.cell? ⟨w.heap.size, 8, none⟩ = some (.slice (some ⟨bv, ov, none⟩) vs.length cap08) ∧ w'.cell? ⟨bv, ov + t, none⟩ = some (.slice (some ⟨b3, o3, none⟩) d0 Cv) ∧ w'.cell? ⟨b3, o3 + i, none⟩ = some (.int .i32 vx)) ∧ Hid (Below w1'.heap.size w1' w')) := fun w' hb => ⟨(KK.out w' (below_then HW2.out hb)).2.1, hb⟩
          clear KS z1
          go_wp2
          go_region_held3 (fun w' => (w'.cell? ⟨w.heap.size, 8, none⟩ = some (.slice (some ⟨bv, ov, none⟩) vs.length cap08) ∧ w'.cell? ⟨bv, ov + t, none⟩ = some (.slice (some ⟨b3, o3, none⟩) d0 Cv) ∧ w'.cell? ⟨b3, o3 + i, none⟩ = some (.int .i32 vx)) ∧ Hid (Below w1'.heap.size w1' w'))
            (first
              | exact KV.out _ ((Below.refl w1'.heap.size w1').drew)
              | exact KV.out _ z2.out
              | assumption)
            (first
              | (go_at_call 14; refine (valueP_any p m0 m1 n0 d0 b04 b05 b06 _ _ t i Y _ (P7.out.keep (below_then HW2.out ((Below.refl w1'.heap.size w1').drew))) htl hil EY.out).mono ?_; rintro e w2' ⟨rfl, hb⟩; have z2 : Hid (Below w1'.heap.size w1' w2') := ((Below.refl w1'.heap.size w1').drew).trans hb; clear hb))
          have HW3 : Hid (Below v7.heap.size v7 w2') := below_then HW2.out z2.out
          obtain ⟨_, _, c1', c2'⟩ := KK.out w2' HW3.out
          clear KV z2
          go_wp2
          go_roundw
          case rel => exact ⟨i + 1, by omega, by go_num, HW3.out⟩
          case measure => simp [intOf]; omega
        · go_wp2
          go_roundw
          case rel => exact ⟨t + 1, by omega, by go_num, HW.out⟩
          case measure => simp [intOf]; omega
    · clear x0 x1 x2 x3 x4 x5 x6 x7 x8
      go_wp2_with (go_at_call 9; refine (pgAwake_any _).mono ?_; rintro r va ⟨rfl, hb⟩; have BA : Hid (Below w.heap.size w va) := below_then (below_then U0.out (below_then B7.out HW.out)) hb; clear hb)
      go_ret
      exact ⟨rfl, BA.out⟩

set_option maxRecDepth 100000 in
set_option maxHeartbeats 3200000 in
theorem lifted (os : Os) (started : os.Started) (H : Type) (enc : TypeId × Value → H) :
    ReturnsInHanded {} Try.checked os 3 .any (Rows.pageNearSpec.pre6 enc Try.prog Try.f3 Rows.pageNearRow.domain false) (Rows.pageNearSpec.post enc Try.prog Try.f3 false true false false) := by
  refine returnsInHanded_of_change (C := Try.checked) own started (by kernel_rfl) Try.func3
    (ChangeSpec.witness6 (enc := enc) (C := Try.checked) false ⟨#[], #[.agg #[.int .i64 0, .int .i64 0, .int .i64 0, .int .i64 0, .int .i64 0, .int .i64 0, .int .i64 0, .slice none 0 0, .slice none 0 0]], []⟩ 8 (by kernel_rfl) (by kernel_rfl) (by kernel_rfl) (by kernel_rfl)) ?_
  intro W base args ds gs before hval0 hW hcnd _
  have hval : ∀ (j : Nat) t v, Try.f3.params[j]? = some t → args[j]? = some v → Value.okWide Try.prog W .any base t v := hval0
  have hW' := hW
  obtain ⟨p, q, hA0, hV, rfl, hfz, hnd⟩ := hW
  have hA : DataW.TrodAll enc Try.prog W 0 (fun _ => true) true Try.f3.params.toList args.toList ds p := hA0
  rw [Try.params3] at hA hval
  obtain ⟨v0, vs0, d0, ds0, p0, q0, hargs, rfl, rfl, h0, r0⟩ := trodAll_cons hA
  obtain ⟨rfl, rfl, rfl⟩ := trodAll_nil r0
  obtain rfl : args = #[v0] := by cases args; simp_all
  obtain ⟨rfl, rfl⟩ := trodVars_none hV
  obtain ⟨cs0, rfl, hsz0⟩ := okWide_struct Try.underlying26 (hval 0 26 v0 rfl rfl)
  have k0 := h0
  have lt0 : ∀ x ∈ p0, x.block < W.heap.size := by obtain ⟨m, hm⟩ := k0; exact DataW.trod_lt m _ _ _ hm
  rw [show Try.prog.cellsOf 26 = 9 by kernel_rfl] at hsz0
  obtain ⟨c00, c01, c02, c03, c04, c05, c06, c07, c08, rfl⟩ := cells9 hsz0
  obtain ⟨fuel0, hf0⟩ := h0
  have hg0 : DataW.trod enc Try.prog W 0 (fun _ => true) true fuel0 26 [c00, c01, c02, c03, c04, c05, c06, c07, c08] = some _ := hf0
  obtain ⟨n0f, hn0f⟩ := open_wide Try.underlying26 hg0
  obtain ⟨y0f0, hhy0f0⟩ := hn0f 0 _ rfl
  have hy0f0 : DataW.trod enc Try.prog W 0 (fun _ => true) true n0f 23 [c00, c01, c02, c03, c04, c05, c06] = some y0f0 := by
    have e : Try.prog.cellsOf 23 = 7 := by kernel_rfl
    have h : DataW.trod enc Try.prog W 0 (fun _ => true) true n0f 23 ((([c00, c01, c02, c03, c04, c05, c06, c07, c08] : List Value).drop 0).take (Try.prog.cellsOf 23)) = some y0f0 := hhy0f0
    rw [e] at h
    exact h
  obtain ⟨n0f0x, hn0f0x⟩ := open_wide Try.underlying23 hy0f0
  obtain ⟨y0f0x0, hhy0f0x0⟩ := hn0f0x 0 _ rfl
  have hy0f0x0 : DataW.trod enc Try.prog W 0 (fun _ => true) true n0f0x 3 [c00] = some y0f0x0 := by
    have e : Try.prog.cellsOf 3 = 1 := by kernel_rfl
    have h : DataW.trod enc Try.prog W 0 (fun _ => true) true n0f0x 3 ((([c00, c01, c02, c03, c04, c05, c06] : List Value).drop 0).take (Try.prog.cellsOf 3)) = some y0f0x0 := hhy0f0x0
    rw [e] at h
    exact h
  obtain ⟨y0f0x1, hhy0f0x1⟩ := hn0f0x 1 _ rfl
  have hy0f0x1 : DataW.trod enc Try.prog W 0 (fun _ => true) true n0f0x 3 [c01] = some y0f0x1 := by
    have e : Try.prog.cellsOf 3 = 1 := by kernel_rfl
    have h : DataW.trod enc Try.prog W 0 (fun _ => true) true n0f0x 3 ((([c00, c01, c02, c03, c04, c05, c06] : List Value).drop 1).take (Try.prog.cellsOf 3)) = some y0f0x1 := hhy0f0x1
    rw [e] at h
    exact h
  obtain ⟨y0f0x2, hhy0f0x2⟩ := hn0f0x 2 _ rfl
  have hy0f0x2 : DataW.trod enc Try.prog W 0 (fun _ => true) true n0f0x 3 [c02] = some y0f0x2 := by
    have e : Try.prog.cellsOf 3 = 1 := by kernel_rfl
    have h : DataW.trod enc Try.prog W 0 (fun _ => true) true n0f0x 3 ((([c00, c01, c02, c03, c04, c05, c06] : List Value).drop 2).take (Try.prog.cellsOf 3)) = some y0f0x2 := hhy0f0x2
    rw [e] at h
    exact h
  obtain ⟨y0f0x3, hhy0f0x3⟩ := hn0f0x 3 _ rfl
  have hy0f0x3 : DataW.trod enc Try.prog W 0 (fun _ => true) true n0f0x 3 [c03] = some y0f0x3 := by
    have e : Try.prog.cellsOf 3 = 1 := by kernel_rfl
    have h : DataW.trod enc Try.prog W 0 (fun _ => true) true n0f0x 3 ((([c00, c01, c02, c03, c04, c05, c06] : List Value).drop 3).take (Try.prog.cellsOf 3)) = some y0f0x3 := hhy0f0x3
    rw [e] at h
    exact h
  obtain ⟨y0f0x4, hhy0f0x4⟩ := hn0f0x 4 _ rfl
  have hy0f0x4 : DataW.trod enc Try.prog W 0 (fun _ => true) true n0f0x 3 [c04] = some y0f0x4 := by
    have e : Try.prog.cellsOf 3 = 1 := by kernel_rfl
    have h : DataW.trod enc Try.prog W 0 (fun _ => true) true n0f0x 3 ((([c00, c01, c02, c03, c04, c05, c06] : List Value).drop 4).take (Try.prog.cellsOf 3)) = some y0f0x4 := hhy0f0x4
    rw [e] at h
    exact h
  obtain ⟨y0f0x5, hhy0f0x5⟩ := hn0f0x 5 _ rfl
  have hy0f0x5 : DataW.trod enc Try.prog W 0 (fun _ => true) true n0f0x 3 [c05] = some y0f0x5 := by
    have e : Try.prog.cellsOf 3 = 1 := by kernel_rfl
    have h : DataW.trod enc Try.prog W 0 (fun _ => true) true n0f0x 3 ((([c00, c01, c02, c03, c04, c05, c06] : List Value).drop 5).take (Try.prog.cellsOf 3)) = some y0f0x5 := hhy0f0x5
    rw [e] at h
    exact h
  obtain ⟨y0f0x6, hhy0f0x6⟩ := hn0f0x 6 _ rfl
  have hy0f0x6 : DataW.trod enc Try.prog W 0 (fun _ => true) true n0f0x 3 [c06] = some y0f0x6 := by
    have e : Try.prog.cellsOf 3 = 1 := by kernel_rfl
    have h : DataW.trod enc Try.prog W 0 (fun _ => true) true n0f0x 3 ((([c00, c01, c02, c03, c04, c05, c06] : List Value).drop 6).take (Try.prog.cellsOf 3)) = some y0f0x6 := hhy0f0x6
    rw [e] at h
    exact h
  obtain ⟨y0f1, hhy0f1⟩ := hn0f 1 _ rfl
  have hy0f1 : DataW.trod enc Try.prog W 0 (fun _ => true) true n0f 24 [c07] = some y0f1 := by
    have e : Try.prog.cellsOf 24 = 1 := by kernel_rfl
    have h : DataW.trod enc Try.prog W 0 (fun _ => true) true n0f 24 ((([c00, c01, c02, c03, c04, c05, c06, c07, c08] : List Value).drop 7).take (Try.prog.cellsOf 24)) = some y0f1 := hhy0f1
    rw [e] at h
    exact h
  obtain ⟨y0f2, hhy0f2⟩ := hn0f 2 _ rfl
  have hy0f2 : DataW.trod enc Try.prog W 0 (fun _ => true) true n0f 24 [c08] = some y0f2 := by
    have e : Try.prog.cellsOf 24 = 1 := by kernel_rfl
    have h : DataW.trod enc Try.prog W 0 (fun _ => true) true n0f 24 ((([c00, c01, c02, c03, c04, c05, c06, c07, c08] : List Value).drop 8).take (Try.prog.cellsOf 24)) = some y0f2 := hhy0f2
    rw [e] at h
    exact h
  obtain ⟨b00, e00, _, w00⟩ := DataW.trod_int Try.underlying3 hy0f0x0
  simp only [List.cons.injEq, and_true] at e00
  subst e00
  obtain ⟨b01, e01, _, w01⟩ := DataW.trod_int Try.underlying3 hy0f0x1
  simp only [List.cons.injEq, and_true] at e01
  subst e01
  obtain ⟨b02, e02, _, w02⟩ := DataW.trod_int Try.underlying3 hy0f0x2
  simp only [List.cons.injEq, and_true] at e02
  subst e02
  obtain ⟨b03, e03, _, w03⟩ := DataW.trod_int Try.underlying3 hy0f0x3
  simp only [List.cons.injEq, and_true] at e03
  subst e03
  obtain ⟨b04, e04, _, w04⟩ := DataW.trod_int Try.underlying3 hy0f0x4
  simp only [List.cons.injEq, and_true] at e04
  subst e04
  obtain ⟨b05, e05, _, w05⟩ := DataW.trod_int Try.underlying3 hy0f0x5
  simp only [List.cons.injEq, and_true] at e05
  subst e05
  obtain ⟨b06, e06, _, w06⟩ := DataW.trod_int Try.underlying3 hy0f0x6
  simp only [List.cons.injEq, and_true] at e06
  subst e06
  obtain ⟨a07, len07, cap07, e07, w07⟩ : ∃ a len cap, c07 = .slice a len cap ∧ IsTable W a len cap := by
    rcases Go.Deep.open_int_rows Try.underlying24 Try.underlying39 Try.underlying21 (by kernel_rfl) (by kernel_rfl) hy0f1 with ⟨hcs, _⟩ | ⟨x, l, c, A, L, C, Z, hcs, _, hl, hm, _, hr⟩
    · simp only [List.cons.injEq, and_true] at hcs
      exact ⟨none, 0, 0, hcs, .inl ⟨rfl, rfl, rfl⟩⟩
    · simp only [List.cons.injEq, and_true] at hcs
      refine ⟨some x, l, c, hcs, .inr ⟨x, A, L, C, Z, rfl, hl, hm, fun r hr' => ?_⟩⟩
      obtain ⟨q1, q2, q3, q4, q5, q6, q7⟩ := hr r hr'
      exact ⟨q1, q2, q3, q4, q5, q6, fun a' ha => (q7 a' ha).2⟩
  subst e07
  obtain ⟨a08, len08, cap08, e08, w08⟩ : ∃ a len cap, c08 = .slice a len cap ∧ IsTable W a len cap := by
    rcases Go.Deep.open_int_rows Try.underlying24 Try.underlying39 Try.underlying21 (by kernel_rfl) (by kernel_rfl) hy0f2 with ⟨hcs, _⟩ | ⟨x, l, c, A, L, C, Z, hcs, _, hl, hm, _, hr⟩
    · simp only [List.cons.injEq, and_true] at hcs
      exact ⟨none, 0, 0, hcs, .inl ⟨rfl, rfl, rfl⟩⟩
    · simp only [List.cons.injEq, and_true] at hcs
      refine ⟨some x, l, c, hcs, .inr ⟨x, A, L, C, Z, rfl, hl, hm, fun r hr' => ?_⟩⟩
      obtain ⟨q1, q2, q3, q4, q5, q6, q7⟩ := hr r hr'
      exact ⟨q1, q2, q3, q4, q5, q6, fun a' ha => (q7 a' ha).2⟩
  subst e08
  clear hA0 hval0
  refine (walk b00 b01 b02 b03 b04 b05 b06 a07 len07 cap07 a08 len08 cap08 W w00 w01 w02 w03 w04 w05 w06 w07 w08).mono fun e W' ⟨he, bel⟩ => ?_
  subst he
  exact ⟨_, rfl, _, _, _, [], _, [], hW', trodAll_mk1 (shut_bool Try.underlying4 _), (trodAll_cons_mk (Below.trod laidOut (by kernel_rfl) (of_decide_eq_true (by kernel_rfl)) k0 bel lt0) trodAll_mk0), rfl, bel.frame _, fun h => by cases h⟩

theorem over : Rows.pageNearRow.holds Try.pinned (OpenSpec.ofChange Rows.pageNearSpec) :=
  OpenClaim.holds_of_wide 3 Try.f3 rfl rfl rfl rfl rfl rfl rfl ⟨rfl, rfl, rfl, rfl, rfl⟩ rfl rfl rfl rfl rfl (by kernel_rfl) Try.func3 (by kernel_rfl)
    (of_decide_eq_true (by kernel_rfl)) (by unfold Func.isWrapper; first | (rw [if_pos (by decide +kernel)]; kernel_rfl) | (rw [if_neg (by decide +kernel)]; exact ⟨rfl, rfl⟩))
    (fun os started H enc _ => lifted os started H enc)

theorem proved : Rows.PageNearSaid := over
end Go.Proofs.Ytgfaehhkbkfmhaa.pageNear

namespace Go.Proofs.Ytgfaehhkbkfmhaa
theorem pageNear_holds : Rows.PageNearSaid := pageNear.proved
#print axioms pageNear_holds
end Go.Proofs.Ytgfaehhkbkfmhaa
