/- PageSpoilt (layer 8): for every input: a page's bytes of which one is another one are refused; no conditions beyond the row's own. -/
import Derived.Test.YtgfaehhkbkfmhaaRows
import Derived.Test.YtgfaehhkbkfmhaaPaB
import Derived.WalkKit
import Derived.ProofKit
import Derived.OpenShut
import Derived.ShutString
import Derived.ChangeOld
import Derived.Below
namespace Go.Proofs.Ytgfaehhkbkfmhaa.pageSpoilt
open Go.ChangeShapes Go.WideShapes Go.ChangeAt Go.RowKit
set_option linter.unusedVariables false

theorem own : ownKnob Try.prog.godebug = none := by kernel_rfl
theorem laidOut : laidOutB Try.prog = true := by kernel_rfl

/-- What the walk is told of a slice of integers that came in. -/
def IsRow (k : IntKind) (w : World) (a : Option Addr) (len cap : Nat) (zs : List Int) : Prop :=
  (a = none ∧ len = 0 ∧ cap = 0 ∧ zs = []) ∨
  ∃ x, a = some x ∧ len ≤ cap ∧ cap ≤ maxLen ∧ zs.length = cap ∧ (∀ i, i < zs.length → w.cell? (x.add i) = some (.int k (zs.getD i 0))) ∧ ∀ n ∈ zs, (Lit.int k n).wf = true

set_option maxRecDepth 100000 in
set_option maxHeartbeats 3200000 in
theorem walk (b00 : Int) (b01 : Int) (b02 : Int) (b03 : Int) (b04 : Int) (b05 : Int) (b06 : Int) (a07 : Option Addr) (len07 cap07 : Nat) (a08 : Option Addr) (len08 cap08 : Nat) (a1 : Int) (a2 : Int) (w : World) (w00 : (Lit.int .i64 b00).wf = true) (w01 : (Lit.int .i64 b01).wf = true) (w02 : (Lit.int .i64 b02).wf = true) (w03 : (Lit.int .i64 b03).wf = true) (w04 : (Lit.int .i64 b04).wf = true) (w05 : (Lit.int .i64 b05).wf = true) (w06 : (Lit.int .i64 b06).wf = true) (w07 : IsTable w a07 len07 cap07) (w08 : IsTable w a08 len08 cap08) (w1 : (Lit.int .i64 a1).wf = true) (w2 : (Lit.int .u8 a2).wf = true) :
    Calls Try.prog 4 #[.agg #[.int .i64 b00, .int .i64 b01, .int .i64 b02, .int .i64 b03, .int .i64 b04, .int .i64 b05, .int .i64 b06, .slice a07 len07 cap07, .slice a08 len08 cap08], .int .i64 a1, .int .u8 a2] w fun e w' => e = .returned (.bool true) ∧ Below w.heap.size w w' := by
  -- depth
  obtain ⟨ks, hk, TK, IK0, MK0, _⟩ := table_open w07
  obtain ⟨vs, hv, TV, IV0, MV0, _⟩ := table_open w08
  subst hk
  subst hv
  have HK : Hid (Tbl w a07 ks) := TK
  have HV : Hid (Tbl w a08 vs) := TV
  have IK : Hid (∀ k, Ls.In32 (Tb.row ks k)) := IK0
  have IV : Hid (∀ k, Ls.In32 (Tb.row vs k)) := IV0
  have MK : Hid (ks.length ≤ maxLen) := MK0
  have MV : Hid (vs.length ≤ maxLen) := MV0
  clear w00 w01 w02 w03 w04 w05 w06 w07 w08 TK TV IK0 IV0 MK0 MV0
  have ca := bounds_i64 w1
  have cc := bounds_u8 w2
  clear w1 w2
  obtain ⟨q, eq⟩ : ∃ q, Pg.rightH [b00, b01, b02, b03, b04, b05, b06] = q := ⟨_, rfl⟩
  obtain ⟨p1, ep1⟩ : ∃ p, Pg.shapedB ks b02 b03 = p := ⟨_, rfl⟩
  obtain ⟨p2, ep2⟩ : ∃ p, Pg.shapedB vs b02 b03 = p := ⟨_, rfl⟩
  have EQ : Hid (Pg.rightH [b00, b01, b02, b03, b04, b05, b06] = q) := eq
  have P1 : Hid (Pg.shapedB ks b02 b03 = p1) := ep1
  have P2 : Hid (Pg.shapedB vs b02 b03 = p2) := ep2
  clear eq ep1 ep2
  cases q
  · go_enter Try.func4, Try.ntmps4
    go_wp2_with fail
    obtain ⟨u0, hu0⟩ : ∃ u, w.alloc (.cells #[.int .i64 b00, .int .i64 b01, .int .i64 b02, .int .i64 b03, .int .i64 b04, .int .i64 b05, .int .i64 b06, .slice a07 ks.length cap07, .slice a08 vs.length cap08] 26) = u := ⟨_, rfl⟩
    have U0 : Hid (Below w.heap.size w u0) := by rw [← hu0]; exact box_below _ _
    have NM : Hid (∀ v, Below u0.heap.size u0 v → NmAt v w.heap.size b00 b01 b02 b03 b04 b05 b06 (.slice a07 ks.length cap07) (.slice a08 vs.length cap08)) := by rw [← hu0]; exact fun v hb => nm_box hb
    have hu1 : w.heap.size < u0.heap.size := by rw [← hu0]; simp
    rw [hu0]
    clear hu0
    refine (head_any _ _ _ _ _ _ _ _).mono ?_
    rintro r v1 ⟨rfl, hb⟩
    have B1 : Hid (Below u0.heap.size u0 v1) := hb
    clear hb
    go_wp2_with fail
    refine (refRightH_any _ _ _ _ _ _ _ false EQ.out _).mono ?_
    rintro r v2 ⟨rfl, hb⟩
    have B2 : Hid (Below u0.heap.size u0 v2) := below_then B1.out hb
    obtain ⟨⟨x0, x1, x2, x3, x4, x5, x6⟩, x7, x8⟩ := NM.out v2 B2.out
    clear hb
    go_wp2_with (go_at_call 9; refine (pgAwake_any _).mono ?_; rintro r va ⟨rfl, hb⟩; have BA : Hid (Below w.heap.size w va) := below_then (below_then U0.out B2.out) hb; clear hb)
    go_ret
    exact ⟨rfl, BA.out⟩
  cases p1
  · go_enter Try.func4, Try.ntmps4
    go_wp2_with fail
    obtain ⟨u0, hu0⟩ : ∃ u, w.alloc (.cells #[.int .i64 b00, .int .i64 b01, .int .i64 b02, .int .i64 b03, .int .i64 b04, .int .i64 b05, .int .i64 b06, .slice a07 ks.length cap07, .slice a08 vs.length cap08] 26) = u := ⟨_, rfl⟩
    have U0 : Hid (Below w.heap.size w u0) := by rw [← hu0]; exact box_below _ _
    have NM : Hid (∀ v, Below u0.heap.size u0 v → NmAt v w.heap.size b00 b01 b02 b03 b04 b05 b06 (.slice a07 ks.length cap07) (.slice a08 vs.length cap08)) := by rw [← hu0]; exact fun v hb => nm_box hb
    have hu1 : w.heap.size < u0.heap.size := by rw [← hu0]; simp
    rw [hu0]
    clear hu0
    refine (head_any _ _ _ _ _ _ _ _).mono ?_
    rintro r v1 ⟨rfl, hb⟩
    have B1 : Hid (Below u0.heap.size u0 v1) := hb
    clear hb
    go_wp2_with fail
    refine (refRightH_any _ _ _ _ _ _ _ true EQ.out _).mono ?_
    rintro r v2 ⟨rfl, hb⟩
    have B2 : Hid (Below u0.heap.size u0 v2) := below_then B1.out hb
    obtain ⟨⟨x0, x1, x2, x3, x4, x5, x6⟩, x7, x8⟩ := NM.out v2 B2.out
    clear hb
    go_wp2_with fail
    refine (shaped_any _ _ _ _ _ _ _ _ _ ks false _ (HK.out.keep (below_then U0.out B2.out)) MK.out P1.out).mono ?_
    rintro r v3 ⟨rfl, hb⟩
    have B3 : Hid (Below u0.heap.size u0 v3) := below_then B2.out hb
    clear x0 x1 x2 x3 x4 x5 x6 x7 x8
    obtain ⟨⟨x0, x1, x2, x3, x4, x5, x6⟩, x7, x8⟩ := NM.out v3 B3.out
    clear hb
    go_wp2_with (go_at_call 9; refine (pgAwake_any _).mono ?_; rintro r va ⟨rfl, hb⟩; have BA : Hid (Below w.heap.size w va) := below_then (below_then U0.out B3.out) hb; clear hb)
    go_ret
    exact ⟨rfl, BA.out⟩
  cases p2
  · go_enter Try.func4, Try.ntmps4
    go_wp2_with fail
    obtain ⟨u0, hu0⟩ : ∃ u, w.alloc (.cells #[.int .i64 b00, .int .i64 b01, .int .i64 b02, .int .i64 b03, .int .i64 b04, .int .i64 b05, .int .i64 b06, .slice a07 ks.length cap07, .slice a08 vs.length cap08] 26) = u := ⟨_, rfl⟩
    have U0 : Hid (Below w.heap.size w u0) := by rw [← hu0]; exact box_below _ _
    have NM : Hid (∀ v, Below u0.heap.size u0 v → NmAt v w.heap.size b00 b01 b02 b03 b04 b05 b06 (.slice a07 ks.length cap07) (.slice a08 vs.length cap08)) := by rw [← hu0]; exact fun v hb => nm_box hb
    have hu1 : w.heap.size < u0.heap.size := by rw [← hu0]; simp
    rw [hu0]
    clear hu0
    refine (head_any _ _ _ _ _ _ _ _).mono ?_
    rintro r v1 ⟨rfl, hb⟩
    have B1 : Hid (Below u0.heap.size u0 v1) := hb
    clear hb
    go_wp2_with fail
    refine (refRightH_any _ _ _ _ _ _ _ true EQ.out _).mono ?_
    rintro r v2 ⟨rfl, hb⟩
    have B2 : Hid (Below u0.heap.size u0 v2) := below_then B1.out hb
    obtain ⟨⟨x0, x1, x2, x3, x4, x5, x6⟩, x7, x8⟩ := NM.out v2 B2.out
    clear hb
    go_wp2_with fail
    refine (shaped_any _ _ _ _ _ _ _ _ _ ks true _ (HK.out.keep (below_then U0.out B2.out)) MK.out P1.out).mono ?_
    rintro r v3 ⟨rfl, hb⟩
    have B3 : Hid (Below u0.heap.size u0 v3) := below_then B2.out hb
    clear x0 x1 x2 x3 x4 x5 x6 x7 x8
    obtain ⟨⟨x0, x1, x2, x3, x4, x5, x6⟩, x7, x8⟩ := NM.out v3 B3.out
    clear hb
    go_wp2_with fail
    refine (shaped_any _ _ _ _ _ _ _ _ _ vs false _ (HV.out.keep (below_then U0.out B3.out)) MV.out P2.out).mono ?_
    rintro r v4 ⟨rfl, hb⟩
    have B4 : Hid (Below u0.heap.size u0 v4) := below_then B3.out hb
    clear x0 x1 x2 x3 x4 x5 x6 x7 x8
    obtain ⟨⟨x0, x1, x2, x3, x4, x5, x6⟩, x7, x8⟩ := NM.out v4 B4.out
    clear hb
    go_wp2_with (go_at_call 9; refine (pgAwake_any _).mono ?_; rintro r va ⟨rfl, hb⟩; have BA : Hid (Below w.heap.size w va) := below_then (below_then U0.out B4.out) hb; clear hb)
    go_ret
    exact ⟨rfl, BA.out⟩
  obtain ⟨m0, m1, n0, d0, rfl, rfl, rfl, rfl⟩ := Pg.right_nats EQ.out
  obtain ⟨qa, qb, qc, qd, qe, qf, _⟩ := Pg.rightH_all EQ.out
  obtain ⟨s0, st0⟩ := Pg.okB_nat (m := m0) qa
  obtain ⟨s1, st1⟩ := Pg.okB_nat (m := m1) qb
  have c1 : 1 ≤ n0 := by have : (1 : Int) ≤ n0 := qc; omega
  have c2 : n0 ≤ 16 := by have : (n0 : Int) ≤ 16 := qd; omega
  have c3 : 1 ≤ d0 := by have : (1 : Int) ≤ d0 := qe; omega
  have c4 : d0 ≤ 16 := by have : (d0 : Int) ≤ 16 := qf; omega
  have ST0 : Hid (Gp.St m0 s0) := st0
  have ST1 : Hid (Gp.St m1 s1) := st1
  have NK : Hid (ks.length = n0 ∧ ∀ k, k < ks.length → (Tb.row ks k).length = d0) := Pg.shapedB_all P1.out
  have NV : Hid (vs.length = n0 ∧ ∀ k, k < vs.length → (Tb.row vs k).length = d0) := Pg.shapedB_all P2.out
  obtain ⟨N, eN⟩ : ∃ N, Pg.psize [(m0 : Int), m1, n0, d0, b04, b05, b06] = N := ⟨_, rfl⟩
  have HN : Hid (Pg.psize [(m0 : Int), m1, n0, d0, b04, b05, b06] = N) := eN
  have hN1 : N ≤ 781 := by rw [← eN]; exact Pg.psize_le EQ.out
  clear qa qb qc qd qe qf st0 st1 eN
  go_enter Try.func4, Try.ntmps4
  go_wp2_with fail
  obtain ⟨u0, hu0⟩ : ∃ u, w.alloc (.cells #[.int .i64 (m0 : Int), .int .i64 (m1 : Int), .int .i64 (n0 : Int), .int .i64 (d0 : Int), .int .i64 b04, .int .i64 b05, .int .i64 b06, .slice a07 ks.length cap07, .slice a08 vs.length cap08] 26) = u := ⟨_, rfl⟩
  have U0 : Hid (Below w.heap.size w u0) := by rw [← hu0]; exact box_below _ _
  have NM : Hid (∀ v, Below u0.heap.size u0 v → NmAt v w.heap.size m0 m1 n0 d0 b04 b05 b06 (.slice a07 ks.length cap07) (.slice a08 vs.length cap08)) := by rw [← hu0]; exact fun v hb => nm_box hb
  have hu1 : w.heap.size < u0.heap.size := by rw [← hu0]; simp
  rw [hu0]
  clear hu0
  refine (head_any _ _ _ _ _ _ _ _).mono ?_
  rintro r v1 ⟨rfl, hb⟩
  have B1 : Hid (Below u0.heap.size u0 v1) := hb
  clear hb
  go_wp2_with fail
  refine (refRightH_any _ _ _ _ _ _ _ true EQ.out _).mono ?_
  rintro r v2 ⟨rfl, hb⟩
  have B2 : Hid (Below u0.heap.size u0 v2) := below_then B1.out hb
  obtain ⟨⟨x0, x1, x2, x3, x4, x5, x6⟩, x7, x8⟩ := NM.out v2 B2.out
  clear hb
  go_wp2_with fail
  refine (shaped_any _ _ _ _ _ _ _ _ _ ks true _ (HK.out.keep (below_then U0.out B2.out)) MK.out P1.out).mono ?_
  rintro r v3 ⟨rfl, hb⟩
  have B3 : Hid (Below u0.heap.size u0 v3) := below_then B2.out hb
  clear x0 x1 x2 x3 x4 x5 x6 x7 x8
  obtain ⟨⟨x0, x1, x2, x3, x4, x5, x6⟩, x7, x8⟩ := NM.out v3 B3.out
  clear hb
  go_wp2_with fail
  refine (shaped_any _ _ _ _ _ _ _ _ _ vs true _ (HV.out.keep (below_then U0.out B3.out)) MV.out P2.out).mono ?_
  rintro r v4 ⟨rfl, hb⟩
  have B4 : Hid (Below u0.heap.size u0 v4) := below_then B3.out hb
  clear x0 x1 x2 x3 x4 x5 x6 x7 x8
  obtain ⟨⟨x0, x1, x2, x3, x4, x5, x6⟩, x7, x8⟩ := NM.out v4 B4.out
  clear hb
  go_wp2_with fail
  refine (quantP_ok m0 m1 n0 d0 s0 s1 b04 b05 b06 _ _ _ _ ks vs _ ST0.out ST1.out (HK.out.keep (below_then U0.out B4.out)) (HV.out.keep (below_then U0.out B4.out)) IK.out IV.out EQ.out P1.out P2.out).mono ?_
  rintro r v5 ⟨p, rfl, hp, hpa, hb⟩
  have B5 : Hid (Below u0.heap.size u0 v5) := below_then B4.out hb
  have PA : Hid (PageAt v5 p m0 m1 n0 d0 b04 b05 b06 (Pg.qk s0 d0 ks) (Pg.qv s1 vs)) := hpa
  have hps : u0.heap.size ≤ p := Nat.le_trans B4.out.size hp
  clear hb hp hpa x0 x1 x2 x3 x4 x5 x6 x7 x8
  go_wp2_with fail
  refine (bytesP_any p m0 m1 n0 d0 b04 b05 b06 _ _ N _ PA.out HN.out).mono ?_
  rintro r v6 ⟨g, rfl, hg, hr, hb⟩
  have B6 : Hid (Below u0.heap.size u0 v6) := below_then B5.out hb
  have P6 : Hid (PageAt v6 p m0 m1 n0 d0 b04 b05 b06 (Pg.qk s0 d0 ks) (Pg.qv s1 vs)) := PA.out.keep hb
  obtain ⟨L, eL⟩ : ∃ L, Pg.bytes [(m0 : Int), m1, n0, d0, b04, b05, b06] (Pg.qk s0 d0 ks) (Pg.qv s1 vs) = L := ⟨_, rfl⟩
  have EL : Hid (Pg.bytes [(m0 : Int), m1, n0, d0, b04, b05, b06] (Pg.qk s0 d0 ks) (Pg.qv s1 vs) = L) := eL
  rw [eL] at hr
  have R6 : Hid (v6.rowIs g 5 N (fun j => .int .u8 (Ls.nth L j))) := hr
  have B56 : Hid (Below v5.heap.size v5 v6) := hb
  have HGS : Hid (v5.heap.size ≤ g) := hg
  have hgu : w.heap.size ≤ g := by have := (below_then U0.out B5.out).size; omega
  have hN0 : 13 ≤ N := by rw [← HN.out]; unfold Pg.psize; omega
  have PG : Hid (Pg.Page [(m0 : Int), m1, n0, d0, b04, b05, b06] (Pg.qk s0 d0 ks) (Pg.qv s1 vs)) := PA.out.page
  have LN : Hid (L.length = N) := by show _ = _; rw [← eL, Pg.bytes_length PA.out.page]; exact HN.out
  have LB : Hid (Sl.Byt L) := by rw [← eL]; exact bytes_byt PA.out.page
  clear hb hg hr eL
  by_cases h1 : a1 < 0
  · have t1 : decide (a1 < 0) = true := decide_eq_true h1
    go_wp2_with (go_at_call 9; refine (pgAwake_any _).mono ?_; rintro r va ⟨rfl, hb⟩; have BA : Hid (Below w.heap.size w va) := below_then (below_then U0.out B6.out) hb; clear hb)
    go_ret
    exact ⟨rfl, BA.out⟩
  by_cases h2 : (N : Int) ≤ a1
  · have t1 : decide (a1 < 0) = false := decide_eq_false h1
    have t2 : decide ((N : Int) ≤ a1) = true := decide_eq_true h2
    go_wp2_with (go_at_call 9; refine (pgAwake_any _).mono ?_; rintro r va ⟨rfl, hb⟩; have BA : Hid (Below w.heap.size w va) := below_then (below_then U0.out B6.out) hb; clear hb)
    go_ret
    exact ⟨rfl, BA.out⟩
  obtain ⟨t, rfl⟩ := Int.eq_ofNat_of_zero_le (show 0 ≤ a1 by omega)
  have htN : t < N := by omega
  have t1 : decide ((t : Int) < 0) = false := decide_eq_false h1
  have t2 : decide ((N : Int) ≤ (t : Int)) = false := decide_eq_false h2
  obtain ⟨x, ex⟩ : ∃ x, Ls.nth L t = x := ⟨_, rfl⟩
  have EX : Hid (Ls.nth L t = x) := ex
  have hcg : v6.cell? ⟨g, t, none⟩ = some (.int .u8 x) := by rw [← ex]; exact R6.out.cell htN
  have hfg := R6.out.frozen t
  have B7 : Hid (Below w.heap.size w (v6.setCell ⟨g, t, none⟩ (.int .u8 a2))) := (below_then U0.out B6.out).setCell (p := ⟨g, t, none⟩) hgu _
  have P7 : Hid (PageAt (v6.setCell ⟨g, t, none⟩ (.int .u8 a2)) p m0 m1 n0 d0 b04 b05 b06 (Pg.qk s0 d0 ks) (Pg.qv s1 vs)) := PA.out.keep (B56.out.setCell (p := ⟨g, t, none⟩) HGS.out _)
  have R7 : Hid ((v6.setCell ⟨g, t, none⟩ (.int .u8 a2)).rowIs g 5 N (fun j => if j = t then .int .u8 a2 else .int .u8 (Ls.nth L j))) := R6.out.set t _
  clear ex h1 h2
  by_cases hw : x = a2
  · have t3 : (x == a2) = true := by simp [hw]
    have t4 : (x != a2) = false := by simp [hw]
    have HWX : Hid (x = a2) := hw
    have R7' : Hid ((v6.setCell ⟨g, t, none⟩ (.int .u8 a2)).rowIs g 5 N (fun j => .int .u8 (Ls.nth (Pg.bytes [(m0 : Int), m1, n0, d0, b04, b05, b06] (Pg.qk s0 d0 ks) (Pg.qv s1 vs)) j))) := by
      rw [EL.out]
      refine R7.out.congr (fun j hj => ?_)
      by_cases e : j = t
      · rw [if_pos e, e, EX.out, hw]
      · rw [if_neg e]
    clear hw
    go_wp2_with fail
    refine (parseP_own g N m0 m1 n0 d0 b04 b05 b06 _ _ _ PG.out HN.out R7'.out).mono ?_
    rintro r v8 ⟨q, rfl, hq, hb⟩
    have B8 : Hid (Below w.heap.size w v8) := below_then B7.out hb
    have P8 : Hid (PageAt v8 p m0 m1 n0 d0 b04 b05 b06 (Pg.qk s0 d0 ks) (Pg.qv s1 vs)) := P7.out.keep hb
    clear hb hq hcg hfg
    go_wp2_with (first
      | (go_at_call 15; refine (bytesP_any p m0 m1 n0 d0 b04 b05 b06 _ _ N _ P8.out HN.out).mono ?_; rintro r v9 ⟨g9, rfl, _, _, hb⟩; have B9 : Hid (Below w.heap.size w v9) := below_then B8.out hb; clear hb)
      | (go_at_call 9; refine (pgAwake_any _).mono ?_; rintro r va ⟨rfl, hb⟩; have BA : Hid (Below w.heap.size w va) := below_then B9.out hb; clear hb))
    go_ret
    exact ⟨rfl, BA.out⟩
  · have t3 : (x == a2) = false := by simp [hw]
    have t4 : (x != a2) = true := by simp [hw]
    have HWX : Hid (¬ x = a2) := hw
    clear hw
    obtain ⟨M, eM⟩ : ∃ M, Ls.gen N (fun j => if j = t then a2 else Ls.nth L j) = M := ⟨_, rfl⟩
    have ML : Hid (M.length = N) := by rw [← eM]; exact Ls.gen_length _ _
    have MN : Hid (∀ j, j < N → Ls.nth M j = if j = t then a2 else Ls.nth L j) := fun j hj => by rw [← eM]; exact Ls.nth_gen hj
    have MB : Hid (Sl.Byt M) := Sl.byt_mk (fun j hj => by
      rw [ML.out] at hj
      rw [MN.out j hj]
      by_cases e : j = t
      · rw [if_pos e]; omega
      · rw [if_neg e]; exact LB.out j)
    have ME : Hid (Pg.parseE M = 22) := by
      show _ = _
      have hs : Sl.sealed M = false := by
        refine Sl.sealed_one (l := Pg.body [(m0 : Int), m1, n0, d0, b04, b05, b06] (Pg.qk s0 d0 ks) (Pg.qv s1 vs)) (j := t) (Pg.body_byt PG.out) MB.out ?_ (by rw [ML.out]; exact htN) ?_ ?_
        · show _ = (Pg.bytes [(m0 : Int), m1, n0, d0, b04, b05, b06] (Pg.qk s0 d0 ks) (Pg.qv s1 vs)).length
          rw [EL.out, ML.out, LN.out]
        · show ¬ _ = Ls.nth (Pg.bytes [(m0 : Int), m1, n0, d0, b04, b05, b06] (Pg.qk s0 d0 ks) (Pg.qv s1 vs)) t
          rw [EL.out, MN.out t htN, if_pos rfl, EX.out]
          exact fun h => HWX.out h.symm
        · intro i hi
          show _ = Ls.nth (Pg.bytes [(m0 : Int), m1, n0, d0, b04, b05, b06] (Pg.qk s0 d0 ks) (Pg.qv s1 vs)) i
          rw [EL.out]
          by_cases hiN : i < N
          · rw [MN.out i hiN, if_neg hi]
          · rw [Ls.nth_past (by rw [ML.out]; omega), Ls.nth_past (by rw [LN.out]; omega)]
      unfold Pg.parseE
      rw [if_neg (by rw [ML.out]; omega), if_pos hs]
    have R8 : Hid (Lst .u8 (v6.setCell ⟨g, t, none⟩ (.int .u8 a2)) (some ⟨g, 0, none⟩) M) := lst_of_row (by rw [ML.out]; exact R7.out) (fun j hj => by
      rw [ML.out] at hj
      rw [MN.out j hj]
      by_cases e : j = t
      · rw [if_pos e, if_pos e]
      · rw [if_neg e, if_neg e])
    clear eM
    go_wp2_with fail
    refine (parseP_bad (some ⟨g, 0, none⟩) N N M 22 _ ML.out.symm (by rw [ML.out]; omega) (Nat.le_refl _) (by unfold maxLen; omega) R8.out MB.out ME.out (by decide)).mono ?_
    rintro r v8 ⟨rfl, hb⟩
    have B8 : Hid (Below w.heap.size w v8) := below_then B7.out hb
    have P8 : Hid (PageAt v8 p m0 m1 n0 d0 b04 b05 b06 (Pg.qk s0 d0 ks) (Pg.qv s1 vs)) := P7.out.keep hb
    clear hb hcg hfg
    go_wp2_with (first
      | (go_at_call 15; refine (bytesP_any p m0 m1 n0 d0 b04 b05 b06 _ _ N _ P8.out HN.out).mono ?_; rintro r v9 ⟨g9, rfl, _, _, hb⟩; have B9 : Hid (Below w.heap.size w v9) := below_then B8.out hb; clear hb)
      | (go_at_call 9; refine (pgAwake_any _).mono ?_; rintro r va ⟨rfl, hb⟩; have BA : Hid (Below w.heap.size w va) := below_then B9.out hb; clear hb))
    go_ret
    exact ⟨rfl, BA.out⟩

set_option maxRecDepth 100000 in
set_option maxHeartbeats 3200000 in
theorem lifted (os : Os) (started : os.Started) (H : Type) (enc : TypeId × Value → H) :
    ReturnsInHanded {} Try.checked os 4 .any (Rows.pageSpoiltSpec.pre6 enc Try.prog Try.f4 Rows.pageSpoiltRow.domain false) (Rows.pageSpoiltSpec.post enc Try.prog Try.f4 false true false false) := by
  refine returnsInHanded_of_change (C := Try.checked) own started (by kernel_rfl) Try.func4
    (ChangeSpec.witness6 (enc := enc) (C := Try.checked) false ⟨#[], #[.agg #[.int .i64 0, .int .i64 0, .int .i64 0, .int .i64 0, .int .i64 0, .int .i64 0, .int .i64 0, .slice none 0 0, .slice none 0 0], .int .i64 0, .int .u8 0], []⟩ 8 (by kernel_rfl) (by kernel_rfl) (by kernel_rfl) (by kernel_rfl)) ?_
  intro W base args ds gs before hval0 hW hcnd _
  have hval : ∀ (j : Nat) t v, Try.f4.params[j]? = some t → args[j]? = some v → Value.okWide Try.prog W .any base t v := hval0
  have hW' := hW
  obtain ⟨p, q, hA0, hV, rfl, hfz, hnd⟩ := hW
  have hA : DataW.TrodAll enc Try.prog W 0 (fun _ => true) true Try.f4.params.toList args.toList ds p := hA0
  rw [Try.params4] at hA hval
  obtain ⟨v0, vs0, d0, ds0, p0, q0, hargs, rfl, rfl, h0, r0⟩ := trodAll_cons hA
  obtain ⟨v1, vs1, d1, ds1, p1, q1, rfl, rfl, rfl, h1, r1⟩ := trodAll_cons r0
  obtain ⟨v2, vs2, d2, ds2, p2, q2, rfl, rfl, rfl, h2, r2⟩ := trodAll_cons r1
  obtain ⟨rfl, rfl, rfl⟩ := trodAll_nil r2
  obtain rfl : args = #[v0, v1, v2] := by cases args; simp_all
  obtain ⟨rfl, rfl⟩ := trodVars_none hV
  obtain ⟨cs0, rfl, hsz0⟩ := okWide_struct Try.underlying26 (hval 0 26 v0 rfl rfl)
  have k0 := h0
  have lt0 : ∀ x ∈ p0, x.block < W.heap.size := by obtain ⟨m, hm⟩ := k0; exact DataW.trod_lt m _ _ _ hm
  rw [show Try.prog.cellsOf 26 = 9 by kernel_rfl] at hsz0
  obtain ⟨c00, c01, c02, c03, c04, c05, c06, c07, c08, rfl⟩ := cells9 hsz0
  obtain ⟨fuel0, hf0⟩ := h0
  have hg0 : DataW.trod enc Try.prog W 0 (fun _ => true) true fuel0 26 [c00, c01, c02, c03, c04, c05, c06, c07, c08] = some _ := hf0
  obtain ⟨n0f, hn0f⟩ := open_wide Try.underlying26 hg0
  obtain ⟨y0f0, hhy0f0⟩ := hn0f 0 _ rfl
  have hy0f0 : DataW.trod enc Try.prog W 0 (fun _ => true) true n0f 23 [c00, c01, c02, c03, c04, c05, c06] = some y0f0 := by
    have e : Try.prog.cellsOf 23 = 7 := by kernel_rfl
    have h : DataW.trod enc Try.prog W 0 (fun _ => true) true n0f 23 ((([c00, c01, c02, c03, c04, c05, c06, c07, c08] : List Value).drop 0).take (Try.prog.cellsOf 23)) = some y0f0 := hhy0f0
    rw [e] at h
    exact h
  obtain ⟨n0f0x, hn0f0x⟩ := open_wide Try.underlying23 hy0f0
  obtain ⟨y0f0x0, hhy0f0x0⟩ := hn0f0x 0 _ rfl
  have hy0f0x0 : DataW.trod enc Try.prog W 0 (fun _ => true) true n0f0x 3 [c00] = some y0f0x0 := by
    have e : Try.prog.cellsOf 3 = 1 := by kernel_rfl
    have h : DataW.trod enc Try.prog W 0 (fun _ => true) true n0f0x 3 ((([c00, c01, c02, c03, c04, c05, c06] : List Value).drop 0).take (Try.prog.cellsOf 3)) = some y0f0x0 := hhy0f0x0
    rw [e] at h
    exact h
  obtain ⟨y0f0x1, hhy0f0x1⟩ := hn0f0x 1 _ rfl
  have hy0f0x1 : DataW.trod enc Try.prog W 0 (fun _ => true) true n0f0x 3 [c01] = some y0f0x1 := by
    have e : Try.prog.cellsOf 3 = 1 := by kernel_rfl
    have h : DataW.trod enc Try.prog W 0 (fun _ => true) true n0f0x 3 ((([c00, c01, c02, c03, c04, c05, c06] : List Value).drop 1).take (Try.prog.cellsOf 3)) = some y0f0x1 := hhy0f0x1
    rw [e] at h
    exact h
  obtain ⟨y0f0x2, hhy0f0x2⟩ := hn0f0x 2 _ rfl
  have hy0f0x2 : DataW.trod enc Try.prog W 0 (fun _ => true) true n0f0x 3 [c02] = some y0f0x2 := by
    have e : Try.prog.cellsOf 3 = 1 := by kernel_rfl
    have h : DataW.trod enc Try.prog W 0 (fun _ => true) true n0f0x 3 ((([c00, c01, c02, c03, c04, c05, c06] : List Value).drop 2).take (Try.prog.cellsOf 3)) = some y0f0x2 := hhy0f0x2
    rw [e] at h
    exact h
  obtain ⟨y0f0x3, hhy0f0x3⟩ := hn0f0x 3 _ rfl
  have hy0f0x3 : DataW.trod enc Try.prog W 0 (fun _ => true) true n0f0x 3 [c03] = some y0f0x3 := by
    have e : Try.prog.cellsOf 3 = 1 := by kernel_rfl
    have h : DataW.trod enc Try.prog W 0 (fun _ => true) true n0f0x 3 ((([c00, c01, c02, c03, c04, c05, c06] : List Value).drop 3).take (Try.prog.cellsOf 3)) = some y0f0x3 := hhy0f0x3
    rw [e] at h
    exact h
  obtain ⟨y0f0x4, hhy0f0x4⟩ := hn0f0x 4 _ rfl
  have hy0f0x4 : DataW.trod enc Try.prog W 0 (fun _ => true) true n0f0x 3 [c04] = some y0f0x4 := by
    have e : Try.prog.cellsOf 3 = 1 := by kernel_rfl
    have h : DataW.trod enc Try.prog W 0 (fun _ => true) true n0f0x 3 ((([c00, c01, c02, c03, c04, c05, c06] : List Value).drop 4).take (Try.prog.cellsOf 3)) = some y0f0x4 := hhy0f0x4
    rw [e] at h
    exact h
  obtain ⟨y0f0x5, hhy0f0x5⟩ := hn0f0x 5 _ rfl
  have hy0f0x5 : DataW.trod enc Try.prog W 0 (fun _ => true) true n0f0x 3 [c05] = some y0f0x5 := by
    have e : Try.prog.cellsOf 3 = 1 := by kernel_rfl
    have h : DataW.trod enc Try.prog W 0 (fun _ => true) true n0f0x 3 ((([c00, c01, c02, c03, c04, c05, c06] : List Value).drop 5).take (Try.prog.cellsOf 3)) = some y0f0x5 := hhy0f0x5
    rw [e] at h
    exact h
  obtain ⟨y0f0x6, hhy0f0x6⟩ := hn0f0x 6 _ rfl
  have hy0f0x6 : DataW.trod enc Try.prog W 0 (fun _ => true) true n0f0x 3 [c06] = some y0f0x6 := by
    have e : Try.prog.cellsOf 3 = 1 := by kernel_rfl
    have h : DataW.trod enc Try.prog W 0 (fun _ => true) true n0f0x 3 ((([c00, c01, c02, c03, c04, c05, c06] : List Value).drop 6).take (Try.prog.cellsOf 3)) = some y0f0x6 := hhy0f0x6
    rw [e] at h
    exact h
  obtain ⟨y0f1, hhy0f1⟩ := hn0f 1 _ rfl
  have hy0f1 : DataW.trod enc Try.prog W 0 (fun _ => true) true n0f 24 [c07] = some y0f1 := by
    have e : Try.prog.cellsOf 24 = 1 := by kernel_rfl
    have h : DataW.trod enc Try.prog W 0 (fun _ => true) true n0f 24 ((([c00, c01, c02, c03, c04, c05, c06, c07, c08] : List Value).drop 7).take (Try.prog.cellsOf 24)) = some y0f1 := hhy0f1
    rw [e] at h
    exact h
  obtain ⟨y0f2, hhy0f2⟩ := hn0f 2 _ rfl
  have hy0f2 : DataW.trod enc Try.prog W 0 (fun _ => true) true n0f 24 [c08] = some y0f2 := by
    have e : Try.prog.cellsOf 24 = 1 := by kernel_rfl
    have h : DataW.trod enc Try.prog W 0 (fun _ => true) true n0f 24 ((([c00, c01, c02, c03, c04, c05, c06, c07, c08] : List Value).drop 8).take (Try.prog.cellsOf 24)) = some y0f2 := hhy0f2
    rw [e] at h
    exact h
  obtain ⟨b00, e00, _, w00⟩ := DataW.trod_int Try.underlying3 hy0f0x0
  simp only [List.cons.injEq, and_true] at e00
  subst e00
  obtain ⟨b01, e01, _, w01⟩ := DataW.trod_int Try.underlying3 hy0f0x1
  simp only [List.cons.injEq, and_true] at e01
  subst e01
  obtain ⟨b02, e02, _, w02⟩ := DataW.trod_int Try.underlying3 hy0f0x2
  simp only [List.cons.injEq, and_true] at e02
  subst e02
  obtain ⟨b03, e03, _, w03⟩ := DataW.trod_int Try.underlying3 hy0f0x3
  simp only [List.cons.injEq, and_true] at e03
  subst e03
  obtain ⟨b04, e04, _, w04⟩ := DataW.trod_int Try.underlying3 hy0f0x4
  simp only [List.cons.injEq, and_true] at e04
  subst e04
  obtain ⟨b05, e05, _, w05⟩ := DataW.trod_int Try.underlying3 hy0f0x5
  simp only [List.cons.injEq, and_true] at e05
  subst e05
  obtain ⟨b06, e06, _, w06⟩ := DataW.trod_int Try.underlying3 hy0f0x6
  simp only [List.cons.injEq, and_true] at e06
  subst e06
  obtain ⟨a07, len07, cap07, e07, w07⟩ : ∃ a len cap, c07 = .slice a len cap ∧ IsTable W a len cap := by
    rcases Go.Deep.open_int_rows Try.underlying24 Try.underlying39 Try.underlying21 (by kernel_rfl) (by kernel_rfl) hy0f1 with ⟨hcs, _⟩ | ⟨x, l, c, A, L, C, Z, hcs, _, hl, hm, _, hr⟩
    · simp only [List.cons.injEq, and_true] at hcs
      exact ⟨none, 0, 0, hcs, .inl ⟨rfl, rfl, rfl⟩⟩
    · simp only [List.cons.injEq, and_true] at hcs
      refine ⟨some x, l, c, hcs, .inr ⟨x, A, L, C, Z, rfl, hl, hm, fun r hr' => ?_⟩⟩
      obtain ⟨q1, q2, q3, q4, q5, q6, q7⟩ := hr r hr'
      exact ⟨q1, q2, q3, q4, q5, q6, fun a' ha => (q7 a' ha).2⟩
  subst e07
  obtain ⟨a08, len08, cap08, e08, w08⟩ : ∃ a len cap, c08 = .slice a len cap ∧ IsTable W a len cap := by
    rcases Go.Deep.open_int_rows Try.underlying24 Try.underlying39 Try.underlying21 (by kernel_rfl) (by kernel_rfl) hy0f2 with ⟨hcs, _⟩ | ⟨x, l, c, A, L, C, Z, hcs, _, hl, hm, _, hr⟩
    · simp only [List.cons.injEq, and_true] at hcs
      exact ⟨none, 0, 0, hcs, .inl ⟨rfl, rfl, rfl⟩⟩
    · simp only [List.cons.injEq, and_true] at hcs
      refine ⟨some x, l, c, hcs, .inr ⟨x, A, L, C, Z, rfl, hl, hm, fun r hr' => ?_⟩⟩
      obtain ⟨q1, q2, q3, q4, q5, q6, q7⟩ := hr r hr'
      exact ⟨q1, q2, q3, q4, q5, q6, fun a' ha => (q7 a' ha).2⟩
  subst e08
  obtain ⟨a1, rfl, rfl, rfl, w1⟩ := open_int Try.underlying3 (hval 1 3 v1 rfl rfl) h1
  obtain ⟨a2, rfl, rfl, rfl, w2⟩ := open_int Try.underlying5 (hval 2 5 v2 rfl rfl) h2
  clear hA0 hval0
  refine (walk b00 b01 b02 b03 b04 b05 b06 a07 len07 cap07 a08 len08 cap08 a1 a2 W w00 w01 w02 w03 w04 w05 w06 w07 w08 w1 w2).mono fun e W' ⟨he, bel⟩ => ?_
  subst he
  exact ⟨_, rfl, _, _, _, [], _, [], hW', trodAll_mk1 (shut_bool Try.underlying4 _), (trodAll_cons_mk (Below.trod laidOut (by kernel_rfl) (of_decide_eq_true (by kernel_rfl)) k0 bel lt0) (trodAll_cons_mk (shut_int Try.underlying3 w1) (trodAll_cons_mk (shut_int Try.underlying5 w2) trodAll_mk0))), rfl, bel.frame _, fun h => by cases h⟩

theorem over : Rows.pageSpoiltRow.holds Try.pinned (OpenSpec.ofChange Rows.pageSpoiltSpec) :=
  OpenClaim.holds_of_wide 4 Try.f4 rfl rfl rfl rfl rfl rfl rfl ⟨rfl, rfl, rfl, rfl, rfl⟩ rfl rfl rfl rfl rfl (by kernel_rfl) Try.func4 (by kernel_rfl)
    (of_decide_eq_true (by kernel_rfl)) (by unfold Func.isWrapper; first | (rw [if_pos (by decide +kernel)]; kernel_rfl) | (rw [if_neg (by decide +kernel)]; exact ⟨rfl, rfl⟩))
    (fun os started H enc _ => lifted os started H enc)

theorem proved : Rows.PageSpoiltSaid := over
end Go.Proofs.Ytgfaehhkbkfmhaa.pageSpoilt

namespace Go.Proofs.Ytgfaehhkbkfmhaa
theorem pageSpoilt_holds : Rows.PageSpoiltSaid := pageSpoilt.proved
#print axioms pageSpoilt_holds
end Go.Proofs.Ytgfaehhkbkfmhaa
