/- PagePlaces (layer 8): for every input: what isn't there means 0; what is told of a page is its own: spoilt, the page stays as it is; no conditions beyond the row's own. -/
import Derived.Test.YtgfaehhkbkfmhaaRows
import Derived.Test.YtgfaehhkbkfmhaaPaC
import Derived.WalkKit
import Derived.ProofKit
import Derived.OpenShut
import Derived.ShutString
import Derived.ChangeOld
import Derived.Below
namespace Go.Proofs.Ytgfaehhkbkfmhaa.pagePlaces
open Go.ChangeShapes Go.WideShapes Go.ChangeAt Go.RowKit
set_option linter.unusedVariables false

theorem own : ownKnob Try.prog.godebug = none := by kernel_rfl
theorem laidOut : laidOutB Try.prog = true := by kernel_rfl

/-- What the walk is told of a slice of integers that came in. -/
def IsRow (k : IntKind) (w : World) (a : Option Addr) (len cap : Nat) (zs : List Int) : Prop :=
  (a = none ∧ len = 0 ∧ cap = 0 ∧ zs = []) ∨
  ∃ x, a = some x ∧ len ≤ cap ∧ cap ≤ maxLen ∧ zs.length = cap ∧ (∀ i, i < zs.length → w.cell? (x.add i) = some (.int k (zs.getD i 0))) ∧ ∀ n ∈ zs, (Lit.int k n).wf = true

set_option maxRecDepth 100000 in
set_option maxHeartbeats 3200000 in
theorem walk (b00 : Int) (b01 : Int) (b02 : Int) (b03 : Int) (b04 : Int) (b05 : Int) (b06 : Int) (a07 : Option Addr) (len07 cap07 : Nat) (a08 : Option Addr) (len08 cap08 : Nat) (a1 : Int) (a2 : Int) (w : World) (w00 : (Lit.int .i64 b00).wf = true) (w01 : (Lit.int .i64 b01).wf = true) (w02 : (Lit.int .i64 b02).wf = true) (w03 : (Lit.int .i64 b03).wf = true) (w04 : (Lit.int .i64 b04).wf = true) (w05 : (Lit.int .i64 b05).wf = true) (w06 : (Lit.int .i64 b06).wf = true) (w07 : IsTable w a07 len07 cap07) (w08 : IsTable w a08 len08 cap08) (w1 : (Lit.int .i64 a1).wf = true) (w2 : (Lit.int .i64 a2).wf = true) :
    Calls Try.prog 5 #[.agg #[.int .i64 b00, .int .i64 b01, .int .i64 b02, .int .i64 b03, .int .i64 b04, .int .i64 b05, .int .i64 b06, .slice a07 len07 cap07, .slice a08 len08 cap08], .int .i64 a1, .int .i64 a2] w fun e w' => e = .returned (.bool true) ∧ Below w.heap.size w w' := by
  -- depth
  obtain ⟨ks, hk, TK, IK0, MK0, _⟩ := table_open w07
  obtain ⟨vs, hv, TV, IV0, MV0, _⟩ := table_open w08
  subst hk
  subst hv
  have HK : Hid (Tbl w a07 ks) := TK
  have HV : Hid (Tbl w a08 vs) := TV
  have IK : Hid (∀ k, Ls.In32 (Tb.row ks k)) := IK0
  have IV : Hid (∀ k, Ls.In32 (Tb.row vs k)) := IV0
  have MK : Hid (ks.length ≤ maxLen) := MK0
  have MV : Hid (vs.length ≤ maxLen) := MV0
  clear w00 w01 w02 w03 w04 w05 w06 w07 w08 TK TV IK0 IV0 MK0 MV0
  have ca := bounds_i64 w1
  have cb := bounds_i64 w2
  clear w1 w2
  obtain ⟨q, eq⟩ : ∃ q, Pg.rightH [b00, b01, b02, b03, b04, b05, b06] = q := ⟨_, rfl⟩
  obtain ⟨p1, ep1⟩ : ∃ p, Pg.shapedB ks b02 b03 = p := ⟨_, rfl⟩
  obtain ⟨p2, ep2⟩ : ∃ p, Pg.shapedB vs b02 b03 = p := ⟨_, rfl⟩
  have EQ : Hid (Pg.rightH [b00, b01, b02, b03, b04, b05, b06] = q) := eq
  have P1 : Hid (Pg.shapedB ks b02 b03 = p1) := ep1
  have P2 : Hid (Pg.shapedB vs b02 b03 = p2) := ep2
  clear eq ep1 ep2
  cases q
  · go_enter Try.func5, Try.ntmps5
    go_wp2_with fail
    obtain ⟨u0, hu0⟩ : ∃ u, w.alloc (.cells #[.int .i64 b00, .int .i64 b01, .int .i64 b02, .int .i64 b03, .int .i64 b04, .int .i64 b05, .int .i64 b06, .slice a07 ks.length cap07, .slice a08 vs.length cap08] 26) = u := ⟨_, rfl⟩
    have U0 : Hid (Below w.heap.size w u0) := by rw [← hu0]; exact box_below _ _
    have NM : Hid (∀ v, Below u0.heap.size u0 v → NmAt v w.heap.size b00 b01 b02 b03 b04 b05 b06 (.slice a07 ks.length cap07) (.slice a08 vs.length cap08)) := by rw [← hu0]; exact fun v hb => nm_box hb
    have hu1 : w.heap.size < u0.heap.size := by rw [← hu0]; simp
    rw [hu0]
    clear hu0
    refine (head_any _ _ _ _ _ _ _ _).mono ?_
    rintro r v1 ⟨rfl, hb⟩
    have B1 : Hid (Below u0.heap.size u0 v1) := hb
    clear hb
    go_wp2_with fail
    refine (refRightH_any _ _ _ _ _ _ _ false EQ.out _).mono ?_
    rintro r v2 ⟨rfl, hb⟩
    have B2 : Hid (Below u0.heap.size u0 v2) := below_then B1.out hb
    obtain ⟨⟨x0, x1, x2, x3, x4, x5, x6⟩, x7, x8⟩ := NM.out v2 B2.out
    clear hb
    go_wp2_with (go_at_call 9; refine (pgAwake_any _).mono ?_; rintro r va ⟨rfl, hb⟩; have BA : Hid (Below w.heap.size w va) := below_then (below_then U0.out B2.out) hb; clear hb)
    go_ret
    exact ⟨rfl, BA.out⟩
  cases p1
  · go_enter Try.func5, Try.ntmps5
    go_wp2_with fail
    obtain ⟨u0, hu0⟩ : ∃ u, w.alloc (.cells #[.int .i64 b00, .int .i64 b01, .int .i64 b02, .int .i64 b03, .int .i64 b04, .int .i64 b05, .int .i64 b06, .slice a07 ks.length cap07, .slice a08 vs.length cap08] 26) = u := ⟨_, rfl⟩
    have U0 : Hid (Below w.heap.size w u0) := by rw [← hu0]; exact box_below _ _
    have NM : Hid (∀ v, Below u0.heap.size u0 v → NmAt v w.heap.size b00 b01 b02 b03 b04 b05 b06 (.slice a07 ks.length cap07) (.slice a08 vs.length cap08)) := by rw [← hu0]; exact fun v hb => nm_box hb
    have hu1 : w.heap.size < u0.heap.size := by rw [← hu0]; simp
    rw [hu0]
    clear hu0
    refine (head_any _ _ _ _ _ _ _ _).mono ?_
    rintro r v1 ⟨rfl, hb⟩
    have B1 : Hid (Below u0.heap.size u0 v1) := hb
    clear hb
    go_wp2_with fail
    refine (refRightH_any _ _ _ _ _ _ _ true EQ.out _).mono ?_
    rintro r v2 ⟨rfl, hb⟩
    have B2 : Hid (Below u0.heap.size u0 v2) := below_then B1.out hb
    obtain ⟨⟨x0, x1, x2, x3, x4, x5, x6⟩, x7, x8⟩ := NM.out v2 B2.out
    clear hb
    go_wp2_with fail
    refine (shaped_any _ _ _ _ _ _ _ _ _ ks false _ (HK.out.keep (below_then U0.out B2.out)) MK.out P1.out).mono ?_
    rintro r v3 ⟨rfl, hb⟩
    have B3 : Hid (Below u0.heap.size u0 v3) := below_then B2.out hb
    clear x0 x1 x2 x3 x4 x5 x6 x7 x8
    obtain ⟨⟨x0, x1, x2, x3, x4, x5, x6⟩, x7, x8⟩ := NM.out v3 B3.out
    clear hb
    go_wp2_with (go_at_call 9; refine (pgAwake_any _).mono ?_; rintro r va ⟨rfl, hb⟩; have BA : Hid (Below w.heap.size w va) := below_then (below_then U0.out B3.out) hb; clear hb)
    go_ret
    exact ⟨rfl, BA.out⟩
  cases p2
  · go_enter Try.func5, Try.ntmps5
    go_wp2_with fail
    obtain ⟨u0, hu0⟩ : ∃ u, w.alloc (.cells #[.int .i64 b00, .int .i64 b01, .int .i64 b02, .int .i64 b03, .int .i64 b04, .int .i64 b05, .int .i64 b06, .slice a07 ks.length cap07, .slice a08 vs.length cap08] 26) = u := ⟨_, rfl⟩
    have U0 : Hid (Below w.heap.size w u0) := by rw [← hu0]; exact box_below _ _
    have NM : Hid (∀ v, Below u0.heap.size u0 v → NmAt v w.heap.size b00 b01 b02 b03 b04 b05 b06 (.slice a07 ks.length cap07) (.slice a08 vs.length cap08)) := by rw [← hu0]; exact fun v hb => nm_box hb
    have hu1 : w.heap.size < u0.heap.size := by rw [← hu0]; simp
    rw [hu0]
    clear hu0
    refine (head_any _ _ _ _ _ _ _ _).mono ?_
    rintro r v1 ⟨rfl, hb⟩
    have B1 : Hid (Below u0.heap.size u0 v1) := hb
    clear hb
    go_wp2_with fail
    refine (refRightH_any _ _ _ _ _ _ _ true EQ.out _).mono ?_
    rintro r v2 ⟨rfl, hb⟩
    have B2 : Hid (Below u0.heap.size u0 v2) := below_then B1.out hb
    obtain ⟨⟨x0, x1, x2, x3, x4, x5, x6⟩, x7, x8⟩ := NM.out v2 B2.out
    clear hb
    go_wp2_with fail
    refine (shaped_any _ _ _ _ _ _ _ _ _ ks true _ (HK.out.keep (below_then U0.out B2.out)) MK.out P1.out).mono ?_
    rintro r v3 ⟨rfl, hb⟩
    have B3 : Hid (Below u0.heap.size u0 v3) := below_then B2.out hb
    clear x0 x1 x2 x3 x4 x5 x6 x7 x8
    obtain ⟨⟨x0, x1, x2, x3, x4, x5, x6⟩, x7, x8⟩ := NM.out v3 B3.out
    clear hb
    go_wp2_with fail
    refine (shaped_any _ _ _ _ _ _ _ _ _ vs false _ (HV.out.keep (below_then U0.out B3.out)) MV.out P2.out).mono ?_
    rintro r v4 ⟨rfl, hb⟩
    have B4 : Hid (Below u0.heap.size u0 v4) := below_then B3.out hb
    clear x0 x1 x2 x3 x4 x5 x6 x7 x8
    obtain ⟨⟨x0, x1, x2, x3, x4, x5, x6⟩, x7, x8⟩ := NM.out v4 B4.out
    clear hb
    go_wp2_with (go_at_call 9; refine (pgAwake_any _).mono ?_; rintro r va ⟨rfl, hb⟩; have BA : Hid (Below w.heap.size w va) := below_then (below_then U0.out B4.out) hb; clear hb)
    go_ret
    exact ⟨rfl, BA.out⟩
  obtain ⟨m0, m1, n0, d0, rfl, rfl, rfl, rfl⟩ := Pg.right_nats EQ.out
  obtain ⟨qa, qb, qc, qd, qe, qf, _⟩ := Pg.rightH_all EQ.out
  obtain ⟨s0, st0⟩ := Pg.okB_nat (m := m0) qa
  obtain ⟨s1, st1⟩ := Pg.okB_nat (m := m1) qb
  have c1 : 1 ≤ n0 := by have : (1 : Int) ≤ n0 := qc; omega
  have c2 : n0 ≤ 16 := by have : (n0 : Int) ≤ 16 := qd; omega
  have c3 : 1 ≤ d0 := by have : (1 : Int) ≤ d0 := qe; omega
  have c4 : d0 ≤ 16 := by have : (d0 : Int) ≤ 16 := qf; omega
  have ST0 : Hid (Gp.St m0 s0) := st0
  have ST1 : Hid (Gp.St m1 s1) := st1
  have NK : Hid (ks.length = n0 ∧ ∀ k, k < ks.length → (Tb.row ks k).length = d0) := Pg.shapedB_all P1.out
  have NV : Hid (vs.length = n0 ∧ ∀ k, k < vs.length → (Tb.row vs k).length = d0) := Pg.shapedB_all P2.out
  obtain ⟨N, eN⟩ : ∃ N, Pg.psize [(m0 : Int), m1, n0, d0, b04, b05, b06] = N := ⟨_, rfl⟩
  have HN : Hid (Pg.psize [(m0 : Int), m1, n0, d0, b04, b05, b06] = N) := eN
  have hN1 : N ≤ 781 := by rw [← eN]; exact Pg.psize_le EQ.out
  clear qa qb qc qd qe qf st0 st1 eN
  go_enter Try.func5, Try.ntmps5
  go_wp2_with fail
  obtain ⟨u0, hu0⟩ : ∃ u, w.alloc (.cells #[.int .i64 (m0 : Int), .int .i64 (m1 : Int), .int .i64 (n0 : Int), .int .i64 (d0 : Int), .int .i64 b04, .int .i64 b05, .int .i64 b06, .slice a07 ks.length cap07, .slice a08 vs.length cap08] 26) = u := ⟨_, rfl⟩
  have U0 : Hid (Below w.heap.size w u0) := by rw [← hu0]; exact box_below _ _
  have NM : Hid (∀ v, Below u0.heap.size u0 v → NmAt v w.heap.size m0 m1 n0 d0 b04 b05 b06 (.slice a07 ks.length cap07) (.slice a08 vs.length cap08)) := by rw [← hu0]; exact fun v hb => nm_box hb
  have hu1 : w.heap.size < u0.heap.size := by rw [← hu0]; simp
  rw [hu0]
  clear hu0
  refine (head_any _ _ _ _ _ _ _ _).mono ?_
  rintro r v1 ⟨rfl, hb⟩
  have B1 : Hid (Below u0.heap.size u0 v1) := hb
  clear hb
  go_wp2_with fail
  refine (refRightH_any _ _ _ _ _ _ _ true EQ.out _).mono ?_
  rintro r v2 ⟨rfl, hb⟩
  have B2 : Hid (Below u0.heap.size u0 v2) := below_then B1.out hb
  obtain ⟨⟨x0, x1, x2, x3, x4, x5, x6⟩, x7, x8⟩ := NM.out v2 B2.out
  clear hb
  go_wp2_with fail
  refine (shaped_any _ _ _ _ _ _ _ _ _ ks true _ (HK.out.keep (below_then U0.out B2.out)) MK.out P1.out).mono ?_
  rintro r v3 ⟨rfl, hb⟩
  have B3 : Hid (Below u0.heap.size u0 v3) := below_then B2.out hb
  clear x0 x1 x2 x3 x4 x5 x6 x7 x8
  obtain ⟨⟨x0, x1, x2, x3, x4, x5, x6⟩, x7, x8⟩ := NM.out v3 B3.out
  clear hb
  go_wp2_with fail
  refine (shaped_any _ _ _ _ _ _ _ _ _ vs true _ (HV.out.keep (below_then U0.out B3.out)) MV.out P2.out).mono ?_
  rintro r v4 ⟨rfl, hb⟩
  have B4 : Hid (Below u0.heap.size u0 v4) := below_then B3.out hb
  clear x0 x1 x2 x3 x4 x5 x6 x7 x8
  obtain ⟨⟨x0, x1, x2, x3, x4, x5, x6⟩, x7, x8⟩ := NM.out v4 B4.out
  clear hb
  go_wp2_with fail
  refine (quantP_ok m0 m1 n0 d0 s0 s1 b04 b05 b06 _ _ _ _ ks vs _ ST0.out ST1.out (HK.out.keep (below_then U0.out B4.out)) (HV.out.keep (below_then U0.out B4.out)) IK.out IV.out EQ.out P1.out P2.out).mono ?_
  rintro r v5 ⟨p, rfl, hp, hpa, hb⟩
  have B5 : Hid (Below u0.heap.size u0 v5) := below_then B4.out hb
  have PA : Hid (PageAt v5 p m0 m1 n0 d0 b04 b05 b06 (Pg.qk s0 d0 ks) (Pg.qv s1 vs)) := hpa
  have hps : u0.heap.size ≤ p := Nat.le_trans B4.out.size hp
  clear hb hp hpa x0 x1 x2 x3 x4 x5 x6 x7 x8
  have PG : Hid (Pg.Page [(m0 : Int), m1, n0, d0, b04, b05, b06] (Pg.qk s0 d0 ks) (Pg.qv s1 vs)) := PA.out.page
  obtain ⟨s, es⟩ : ∃ s, strOfNums (Pg.bytes [(m0 : Int), m1, n0, d0, b04, b05, b06] (Pg.qk s0 d0 ks) (Pg.qv s1 vs)) = s := ⟨_, rfl⟩
  have CV : Hid (∀ (v : World) (g9 : Nat), v.rowIs g9 5 N (fun j => .int .u8 (Ls.nth (Pg.bytes [(m0 : Int), m1, n0, d0, b04, b05, b06] (Pg.qk s0 d0 ks) (Pg.qv s1 vs)) j)) → (convert 45 9 (.slice (some ⟨g9, 0, none⟩) N N)).run Try.prog v = .ok (.string s) v) := fun v g9 hr => by
    have hl : (Pg.bytes [(m0 : Int), m1, n0, d0, b04, b05, b06] (Pg.qk s0 d0 ks) (Pg.qv s1 vs)).length = N := by rw [Pg.bytes_length PG.out]; exact HN.out
    rw [← es]
    exact conv_text _ _ _ Try.underlying45 Try.underlying5 Try.underlying9 (lst_of_row (by rw [hl]; exact hr) (fun j hj => rfl)) (bytes_byt PG.out) _ _ hl.symm
  have LQ : Hid ((Pg.qk s0 d0 ks).length = d0 ∧ (Pg.qv s1 vs).length = n0) := ⟨Pg.qk_length _ _ _, by rw [Pg.qv_length]; exact NV.out.1⟩
  have LC : Hid ((∀ i, i < (Pg.qk s0 d0 ks).length → (Pg.gc (Pg.nth (Pg.qk s0 d0 ks) i)).length ≤ 16) ∧ ∀ i, i < (Pg.qv s1 vs).length → (Pg.gc (Pg.nth (Pg.qv s1 vs) i)).length ≤ 16) :=
    ⟨fun i hi => by rw [(PG.out.2.2.2.2.1 i hi).1]; exact c2, fun i hi => by rw [(PG.out.2.2.2.2.2.1 i hi).1]; exact c4⟩
  clear es
  obtain ⟨i0, hi0, hi1, hi2, hi3⟩ := info_parts Try.infoGp
  go_wp2_with fail
  refine (bytesP_any p m0 m1 n0 d0 b04 b05 b06 _ _ N _ PA.out HN.out).mono ?_
  rintro r v6 ⟨g, rfl, _, hr, hb⟩
  have B6 : Hid (Below u0.heap.size u0 v6) := below_then B5.out hb
  have P6 : Hid (PageAt v6 p m0 m1 n0 d0 b04 b05 b06 (Pg.qk s0 d0 ks) (Pg.qv s1 vs)) := PA.out.keep hb
  have cv := CV.out v6 g hr
  obtain ⟨⟨x0, x1, x2, x3, x4, x5, x6⟩, x7, x8⟩ := NM.out v6 B6.out
  clear hb hr PA
  obtain ⟨q1, e1⟩ : ∃ q, decide (0 ≤ a1) = q := ⟨_, rfl⟩
  obtain ⟨q2, e2⟩ : ∃ q, decide (a1 < (n0 : Int)) = q := ⟨_, rfl⟩
  obtain ⟨q3, e3⟩ : ∃ q, decide (0 ≤ a2) = q := ⟨_, rfl⟩
  obtain ⟨q4, e4⟩ : ∃ q, decide (a2 < (d0 : Int)) = q := ⟨_, rfl⟩
  have HQ : Hid (((decide (0 ≤ a1) && decide (a1 ≤ (n0 : Int) - 1)) && (decide (0 ≤ a2) && decide (a2 ≤ (d0 : Int) - 1))) = ((q1 && q2) && (q3 && q4))) := by
    show _ = _
    rw [← e1, ← e2, ← e3, ← e4, show (decide (a1 ≤ (n0 : Int) - 1)) = decide (a1 < (n0 : Int)) from by rw [decide_eq_decide]; omega, show (decide (a2 ≤ (d0 : Int) - 1)) = decide (a2 < (d0 : Int)) from by rw [decide_eq_decide]; omega]
  have CS : (q1 = false) ∨ (q1 = true ∧ q2 = false) ∨ (q1 = true ∧ q2 = true ∧ q3 = false) ∨ (q1 = true ∧ q2 = true ∧ q3 = true ∧ q4 = false) ∨ (q1 = true ∧ q2 = true ∧ q3 = true ∧ q4 = true) := by cases q1 <;> cases q2 <;> cases q3 <;> cases q4 <;> simp
  rcases CS with rfl | ⟨rfl, rfl⟩ | ⟨rfl, rfl, rfl⟩ | ⟨rfl, rfl, rfl, rfl⟩ | ⟨rfl, rfl, rfl, rfl⟩
  all_goals
    go_wp2_with (first
      | (go_at_call 13; refine (keyP_none p m0 m1 n0 d0 b04 b05 b06 _ _ a1 a2 _ P6.out (HQ.out.trans (by simp))).mono ?_; rintro r w' ⟨rfl, hw⟩; cases hw.symm; clear hw)
      | (go_at_call 14; refine (valueP_none p m0 m1 n0 d0 b04 b05 b06 _ _ a1 a2 _ P6.out (HQ.out.trans (by simp))).mono ?_; rintro r w' ⟨rfl, hw⟩; cases hw.symm; clear hw)
      | (go_at_call 17; refine (keys_any p m0 m1 n0 d0 b04 b05 b06 _ _ _ P6.out).mono ?_; rintro r v7 ⟨gk, Bk, rfl, hgk, htk, hb⟩; have B7 : Hid (Below v6.heap.size v6 v7) := hb; have T7 : Hid (v6.heap.size ≤ gk ∧ TRow v7 gk 39 n0 (Pg.tab n0 d0 (Pg.keyAt (Pg.qk s0 d0 ks))) n0 Bk) := ⟨hgk, htk⟩; clear hb hgk htk)
      | (go_at_call 18; refine (values_any p m0 m1 n0 d0 b04 b05 b06 _ _ _ (P6.out.keep B7.out)).mono ?_; rintro r v8 ⟨gv, Bv, rfl, hgv, htv, hb⟩; have B8 : Hid (Below v6.heap.size v6 v8) := below_then B7.out hb; have BB : Hid (Below v7.heap.size v7 v8) := hb; have T8 : Hid (TRow v8 gk 39 n0 (Pg.tab n0 d0 (Pg.keyAt (Pg.qk s0 d0 ks))) n0 Bk ∧ v7.heap.size ≤ gv ∧ TRow v8 gv 39 n0 (Pg.tab n0 d0 (Pg.valAt (Pg.qv s1 vs))) n0 Bv) := ⟨T7.out.2.keep hb, hgv, htv⟩; clear hb hgv htv))
    clear x0 x1 x2 x3 x4 x5 x6 x7 x8 cv
    obtain ⟨v9, hv9⟩ : ∃ v, v8.alloc (.cells #[.slice (some ⟨gk, 0, none⟩) n0 n0, .slice (some ⟨gv, 0, none⟩) n0 n0] 24) = v := ⟨_, rfl⟩
    have hgk := T7.out.1
    have hgv := T8.out.2.1
    have h78 : v7.heap.size ≤ v8.heap.size := by have := T8.out.2.2.lt; omega
    have hkl : gk < v7.heap.size := T7.out.2.lt
    have hvl : gv < v8.heap.size := T8.out.2.2.lt
    have L9 : Hid (LA v6 v9 gk gv v8.heap.size n0 d0) := by
      rw [← hv9]
      have k7 : LT v7 gk n0 d0 v6.heap.size (fun b => ¬ b = gk ∧ ¬ b = gv ∧ ¬ b = v8.heap.size) := T7.out.2.loose hgk (fun b h1 h2 => by omega)
      have hb78 : LT v8 gk n0 d0 v6.heap.size (fun b => ¬ b = gk ∧ ¬ b = gv ∧ ¬ b = v8.heap.size) := k7.keep BB.out
      have v8t : LT v8 gv n0 d0 v6.heap.size (fun b => ¬ b = gk ∧ ¬ b = gv ∧ ¬ b = v8.heap.size) := T8.out.2.2.loose (by have := B7.out.size; omega) (fun b h1 h2 => by omega)
      exact ⟨hb78.keep (box_below _ _), v8t.keep (box_below _ _), cell_of_row _ _ _ _ _ _ (heap_alloc_new v8 _), cell_of_row _ _ _ _ _ _ (heap_alloc_new v8 _), below_then B8.out (box_below _ _)⟩
    obtain ⟨S0, eS0⟩ : ∃ S, v8.heap.size = S := ⟨_, rfl⟩
    rw [eS0] at L9
    rw [hv9, eS0]
    clear hv9 eS0 T7 T8 B7 B8 BB hgk hgv h78 hkl hvl
    go_loopw [102] (fun i wr => ∃ k : Nat, k ≤ 2 ∧ i = .int .i64 k ∧ LA v6 wr gk gv S0 n0 d0) (fun i _ => 2 - (intOf i).toNat)
    case atStart => exact ⟨0, Nat.zero_le _, rfl, L9.out⟩
    case round =>
      obtain ⟨k, hk, rfl, hla⟩ := hrel
      have HL : Hid (LA v6 wr gk gv S0 n0 d0) := hla
      clear hla L9
      by_cases hk2 : k < 2
      · obtain ⟨T, hT, hc⟩ := HL.out.pick hk2
        have HT : Hid (T = gk ∨ T = gv) := hT
        clear hT
        have f0 : (0 : Int) ≤ (k : Int) := by omega
        have f1 : (k : Int) < 2 := by omega
        go_wp2
        clear hc
        go_loopw [108] (fun i wr => ∃ j : Nat, j ≤ n0 ∧ i = .int .i64 j ∧ LA v6 wr gk gv S0 n0 d0) (fun i _ => n0 - (intOf i).toNat)
        case atStart => exact ⟨0, Nat.zero_le _, rfl, HL.out⟩
        case round =>
          clear HL
          obtain ⟨j, hj, rfl, hla⟩ := hrel
          have HL : Hid (LA v6 wr gk gv S0 n0 d0) := hla
          clear hla
          by_cases hj2 : j < n0
          · obtain ⟨b, hc, hb1, hb2, hb3⟩ := HL.out.row HT.out hj2
            have RB : Hid (Rw .i32 21 wr b d0) := hb3
            have FB : Hid (v6.heap.size ≤ b ∧ (¬ b = gk ∧ ¬ b = gv ∧ ¬ b = S0)) := ⟨hb1, hb2⟩
            clear hb1 hb2 hb3
            go_wp2
            clear hc
            go_loopw [114] (fun i wr => ∃ t : Nat, t ≤ d0 ∧ i = .int .i64 t ∧ LA v6 wr gk gv S0 n0 d0 ∧ Rw .i32 21 wr b d0) (fun i _ => d0 - (intOf i).toNat)
            case atStart => exact ⟨0, Nat.zero_le _, rfl, HL.out, RB.out⟩
            case round =>
              clear HL RB
              obtain ⟨t, ht, rfl, hla, hrw⟩ := hrel
              have HL : Hid (LA v6 wr gk gv S0 n0 d0) := hla
              have RB : Hid (Rw .i32 21 wr b d0) := hrw
              clear hla hrw
              by_cases ht2 : t < d0
              · obtain ⟨⟨y, hy⟩, hf⟩ := RB.out.at ht2
                go_wp2
                go_roundw
                case rel => exact ⟨t + 1, by omega, by go_num, HL.out.set FB.out.1 FB.out.2 t _, RB.out.set b t _⟩
                case measure => simp [intOf]; omega
              · go_wp2
                go_roundw
                case rel => exact ⟨j + 1, by omega, by go_num, HL.out⟩
                case measure => simp [intOf]; omega
          · go_wp2
            go_roundw
            case rel => exact ⟨k + 1, by omega, by go_num, HL.out⟩
            case measure => simp [intOf]; omega
      · have B10 : Hid (Below v6.heap.size v6 wr) := HL.out.2.2.2.2
        have P10 : Hid (PageAt wr p m0 m1 n0 d0 b04 b05 b06 (Pg.qk s0 d0 ks) (Pg.qv s1 vs)) := P6.out.keep HL.out.2.2.2.2
        clear HL
        go_wp2_with (first
          | (go_at_call 11; refine (keyGroups_any p m0 m1 n0 d0 b04 b05 b06 _ _ _ P10.out).mono ?_; rintro r v11 ⟨k1, rfl, hk1, hu, hb⟩; have B11 : Hid (Below v6.heap.size v6 v11) := below_then B10.out hb; have U11 : Hid (wr.heap.size ≤ k1 ∧ URow v11 k1 43 ((Pg.qk s0 d0 ks).length * 3) (Pg.qk s0 d0 ks) (Pg.qk s0 d0 ks).length) := ⟨hk1, hu⟩; clear hb hu hk1)
          | (go_at_call 12; refine (valueGroups_any p m0 m1 n0 d0 b04 b05 b06 _ _ _ (P6.out.keep B11.out)).mono ?_; rintro r v12 ⟨k2, rfl, hk2', hu, hb⟩; have B12 : Hid (Below v6.heap.size v6 v12) := below_then B11.out hb; have U12 : Hid (URow v12 k1 43 ((Pg.qk s0 d0 ks).length * 3) (Pg.qk s0 d0 ks) (Pg.qk s0 d0 ks).length ∧ v11.heap.size ≤ k2 ∧ URow v12 k2 43 ((Pg.qv s1 vs).length * 3) (Pg.qv s1 vs) (Pg.qv s1 vs).length) := ⟨U11.out.2.keep hb, hk2', hu⟩; clear hb hu hk2'; obtain ⟨xs, xl, xc, xo, xx⟩ := U12.out.1.list rfl; obtain ⟨ys, yl, yc, yo, yy⟩ := U12.out.2.2.list rfl; have XX : Hid (xs.length = d0 * 3 ∧ (∀ j u, xs[j]? = some u → v12.cell? ((⟨k1, 0, none⟩ : Addr).add j) = some u) ∧ (∀ u ∈ xs, u.oneCell' = true)) := ⟨(by rw [xl, LQ.out.1]), xc, xo⟩; have YY : Hid (ys.length = n0 * 3 ∧ (∀ j u, ys[j]? = some u → v12.cell? ((⟨k2, 0, none⟩ : Addr).add j) = some u) ∧ (∀ u ∈ ys, u.oneCell' = true)) := ⟨(by rw [yl, LQ.out.2]), yc, yo⟩; have ZX : Hid (_) := xx; have ZY : Hid (_) := yy; clear xl xc xo xx yl yc yo yy)
          | (at_builtin; refine wpList_append_grows v12 rfl _ _ 36 rfl 43 i0 _ 3 32 Try.underlying36 hi0 hi1 hi2 hi3 rfl (by omega) (some ⟨k1, 0, none⟩) d0 d0 xs (by rfl) (fun e => by cases e) XX.out.1 (fun b hb j u hu => by cases hb; exact XX.out.2.1 j u hu) ⟨k2, 0, none⟩ n0 n0 ys (by rfl) YY.out.1 YY.out.2.1 YY.out.2.2 (by omega) (by unfold maxLen; omega) (by omega) ?_; intro v' v13 hown hgrow; obtain ⟨K, cK, eK, hK, hLG⟩ := lg_own (B := v6.heap.size) hown hgrow LQ.out.1 LQ.out.2 (by omega) XX.out.1 (by have := B10.out.size; have := U11.out.1; omega) (by have := B11.out.size; have := U12.out.2.1; omega) ZX.out ZY.out LC.out.1 LC.out.2; subst eK; have G13 : Hid (LG v13 K (d0 + n0) v6.heap.size ∧ Below v6.heap.size v6 v13) := ⟨hLG, B12.out.trans (((Below.refl v12.heap.size v12).grown hgrow (Nat.le_refl _) (fun k hk => by cases hk)).mono B12.out.size)⟩; clear hown hgrow hK hLG))
        go_loopw [132] (fun i wr => ∃ k : Nat, k ≤ d0 + n0 ∧ i = .int .i64 k ∧ LG wr K (d0 + n0) v6.heap.size ∧ Below v6.heap.size v6 wr) (fun i _ => d0 + n0 - (intOf i).toNat)
        case atStart => exact ⟨0, Nat.zero_le _, rfl, G13.out.1, G13.out.2⟩
        case round =>
          obtain ⟨k, hk, rfl, hlg, hbel⟩ := hrel
          have HG : Hid (LG wr K (d0 + n0) v6.heap.size) := hlg
          have HB : Hid (Below v6.heap.size v6 wr) := hbel
          clear hlg hbel G13
          by_cases hk3 : k < d0 + n0
          · obtain ⟨b, m, z, sc, h0, h1, h2, hm, hb1, hb2, hb3⟩ := HG.out k hk3
            have hKl : K < wr.heap.size := World.block_lt_of_cell? wr _ h0
            obtain ⟨Q, eQ⟩ : ∃ Q, wr.heap.size = Q := ⟨_, rfl⟩
            have hbl : b < Q := by obtain ⟨f, hr⟩ := hb3; rw [← eQ]; exact hr.lt
            have hKQ : K < Q := by omega
            have hQ : v6.heap.size ≤ Q := by rw [← eQ]; exact HB.out.size
            have A0 : Hid (LG (wr.alloc (.cells #[.int .i32 z, .int .u32 sc, .slice (some ⟨b, 0, none⟩) m m] 43)) K (d0 + n0) v6.heap.size ∧ Rw .i64 3 (wr.alloc (.cells #[.int .i32 z, .int .u32 sc, .slice (some ⟨b, 0, none⟩) m m] 43)) b m ∧ (wr.alloc (.cells #[.int .i32 z, .int .u32 sc, .slice (some ⟨b, 0, none⟩) m m] 43)).cell? ⟨Q, 2, none⟩ = some (.slice (some ⟨b, 0, none⟩) m m) ∧ Below v6.heap.size v6 (wr.alloc (.cells #[.int .i32 z, .int .u32 sc, .slice (some ⟨b, 0, none⟩) m m] 43))) :=
              ⟨HG.out.keep (box_below _ _), hb3.keep (box_below _ _), by rw [← eQ]; exact cell_of_row _ _ _ _ _ _ (heap_alloc_new wr _), below_then HB.out (box_below _ _)⟩
            have FB : Hid (v6.heap.size ≤ b ∧ ¬ K = b) := ⟨hb1, fun e => hb2 e.symm⟩
            clear hb1 hb2 hb3
            have f0 : (0 : Int) ≤ (k : Int) := by omega
            have f1 : (k : Int) < (d0 : Int) + (n0 : Int) := by omega
            go_wp2
            try rw [eQ]
            clear h0 h1 h2 hKl eQ HG HB
            go_loopw [139] (fun i wr => ∃ t : Nat, t ≤ m ∧ i = .int .i64 t ∧ LG wr K (d0 + n0) v6.heap.size ∧ Rw .i64 3 wr b m ∧ wr.cell? ⟨Q, 2, none⟩ = some (.slice (some ⟨b, 0, none⟩) m m) ∧ Below v6.heap.size v6 wr) (fun i _ => m - (intOf i).toNat)
            case atStart => exact ⟨0, Nat.zero_le _, rfl, A0.out⟩
            case round =>
              clear A0
              obtain ⟨t, ht, rfl, hlg, hrw, hcq, hbel⟩ := hrel
              have HG : Hid (LG wr K (d0 + n0) v6.heap.size) := hlg
              have RB : Hid (Rw .i64 3 wr b m) := hrw
              have CQ : Hid (wr.cell? ⟨Q, 2, none⟩ = some (.slice (some ⟨b, 0, none⟩) m m)) := hcq
              have HB : Hid (Below v6.heap.size v6 wr) := hbel
              clear hlg hrw hbel
              by_cases ht2 : t < m
              · obtain ⟨⟨y, hy⟩, hf⟩ := RB.out.at ht2
                go_wp2
                go_roundw
                case rel => exact ⟨t + 1, by omega, by go_num, HG.out.set FB.out.2 t _, RB.out.set b t _, cell_set_other CQ.out (by omega), HB.out.setCell (p := ⟨b, t, none⟩) FB.out.1 _⟩
                case measure => simp [intOf]; omega
              · clear hcq
                go_wp2
                go_roundw
                case rel => exact ⟨k + 1, by omega, by go_num, HG.out, HB.out⟩
                case measure => simp [intOf]; omega
          · have P14 : Hid (PageAt wr p m0 m1 n0 d0 b04 b05 b06 (Pg.qk s0 d0 ks) (Pg.qv s1 vs)) := P6.out.keep HB.out
            have B14 : Hid (Below w.heap.size w wr) := below_then (below_then U0.out B6.out) HB.out
            clear HG HB
            go_wp2_with (first
              | (go_at_call 15; refine (bytesP_any p m0 m1 n0 d0 b04 b05 b06 _ _ N _ P14.out HN.out).mono ?_; rintro r v15 ⟨g15, rfl, _, hr, hb⟩; have B15 : Hid (Below w.heap.size w v15) := below_then B14.out hb; have cv := CV.out v15 g15 hr; clear hb hr)
              | (go_at_call 9; refine (pgAwake_any _).mono ?_; rintro r va ⟨rfl, hb⟩; have BA : Hid (Below w.heap.size w va) := below_then B15.out hb; clear hb))
            go_ret
            exact ⟨rfl, BA.out⟩

set_option maxRecDepth 100000 in
set_option maxHeartbeats 3200000 in
theorem lifted (os : Os) (started : os.Started) (H : Type) (enc : TypeId × Value → H) :
    ReturnsInHanded {} Try.checked os 5 .any (Rows.pagePlacesSpec.pre6 enc Try.prog Try.f5 Rows.pagePlacesRow.domain false) (Rows.pagePlacesSpec.post enc Try.prog Try.f5 false true false false) := by
  refine returnsInHanded_of_change (C := Try.checked) own started (by kernel_rfl) Try.func5
    (ChangeSpec.witness6 (enc := enc) (C := Try.checked) false ⟨#[], #[.agg #[.int .i64 0, .int .i64 0, .int .i64 0, .int .i64 0, .int .i64 0, .int .i64 0, .int .i64 0, .slice none 0 0, .slice none 0 0], .int .i64 0, .int .i64 0], []⟩ 8 (by kernel_rfl) (by kernel_rfl) (by kernel_rfl) (by kernel_rfl)) ?_
  intro W base args ds gs before hval0 hW hcnd _
  have hval : ∀ (j : Nat) t v, Try.f5.params[j]? = some t → args[j]? = some v → Value.okWide Try.prog W .any base t v := hval0
  have hW' := hW
  obtain ⟨p, q, hA0, hV, rfl, hfz, hnd⟩ := hW
  have hA : DataW.TrodAll enc Try.prog W 0 (fun _ => true) true Try.f5.params.toList args.toList ds p := hA0
  rw [Try.params5] at hA hval
  obtain ⟨v0, vs0, d0, ds0, p0, q0, hargs, rfl, rfl, h0, r0⟩ := trodAll_cons hA
  obtain ⟨v1, vs1, d1, ds1, p1, q1, rfl, rfl, rfl, h1, r1⟩ := trodAll_cons r0
  obtain ⟨v2, vs2, d2, ds2, p2, q2, rfl, rfl, rfl, h2, r2⟩ := trodAll_cons r1
  obtain ⟨rfl, rfl, rfl⟩ := trodAll_nil r2
  obtain rfl : args = #[v0, v1, v2] := by cases args; simp_all
  obtain ⟨rfl, rfl⟩ := trodVars_none hV
  obtain ⟨cs0, rfl, hsz0⟩ := okWide_struct Try.underlying26 (hval 0 26 v0 rfl rfl)
  have k0 := h0
  have lt0 : ∀ x ∈ p0, x.block < W.heap.size := by obtain ⟨m, hm⟩ := k0; exact DataW.trod_lt m _ _ _ hm
  rw [show Try.prog.cellsOf 26 = 9 by kernel_rfl] at hsz0
  obtain ⟨c00, c01, c02, c03, c04, c05, c06, c07, c08, rfl⟩ := cells9 hsz0
  obtain ⟨fuel0, hf0⟩ := h0
  have hg0 : DataW.trod enc Try.prog W 0 (fun _ => true) true fuel0 26 [c00, c01, c02, c03, c04, c05, c06, c07, c08] = some _ := hf0
  obtain ⟨n0f, hn0f⟩ := open_wide Try.underlying26 hg0
  obtain ⟨y0f0, hhy0f0⟩ := hn0f 0 _ rfl
  have hy0f0 : DataW.trod enc Try.prog W 0 (fun _ => true) true n0f 23 [c00, c01, c02, c03, c04, c05, c06] = some y0f0 := by
    have e : Try.prog.cellsOf 23 = 7 := by kernel_rfl
    have h : DataW.trod enc Try.prog W 0 (fun _ => true) true n0f 23 ((([c00, c01, c02, c03, c04, c05, c06, c07, c08] : List Value).drop 0).take (Try.prog.cellsOf 23)) = some y0f0 := hhy0f0
    rw [e] at h
    exact h
  obtain ⟨n0f0x, hn0f0x⟩ := open_wide Try.underlying23 hy0f0
  obtain ⟨y0f0x0, hhy0f0x0⟩ := hn0f0x 0 _ rfl
  have hy0f0x0 : DataW.trod enc Try.prog W 0 (fun _ => true) true n0f0x 3 [c00] = some y0f0x0 := by
    have e : Try.prog.cellsOf 3 = 1 := by kernel_rfl
    have h : DataW.trod enc Try.prog W 0 (fun _ => true) true n0f0x 3 ((([c00, c01, c02, c03, c04, c05, c06] : List Value).drop 0).take (Try.prog.cellsOf 3)) = some y0f0x0 := hhy0f0x0
    rw [e] at h
    exact h
  obtain ⟨y0f0x1, hhy0f0x1⟩ := hn0f0x 1 _ rfl
  have hy0f0x1 : DataW.trod enc Try.prog W 0 (fun _ => true) true n0f0x 3 [c01] = some y0f0x1 := by
    have e : Try.prog.cellsOf 3 = 1 := by kernel_rfl
    have h : DataW.trod enc Try.prog W 0 (fun _ => true) true n0f0x 3 ((([c00, c01, c02, c03, c04, c05, c06] : List Value).drop 1).take (Try.prog.cellsOf 3)) = some y0f0x1 := hhy0f0x1
    rw [e] at h
    exact h
  obtain ⟨y0f0x2, hhy0f0x2⟩ := hn0f0x 2 _ rfl
  have hy0f0x2 : DataW.trod enc Try.prog W 0 (fun _ => true) true n0f0x 3 [c02] = some y0f0x2 := by
    have e : Try.prog.cellsOf 3 = 1 := by kernel_rfl
    have h : DataW.trod enc Try.prog W 0 (fun _ => true) true n0f0x 3 ((([c00, c01, c02, c03, c04, c05, c06] : List Value).drop 2).take (Try.prog.cellsOf 3)) = some y0f0x2 := hhy0f0x2
    rw [e] at h
    exact h
  obtain ⟨y0f0x3, hhy0f0x3⟩ := hn0f0x 3 _ rfl
  have hy0f0x3 : DataW.trod enc Try.prog W 0 (fun _ => true) true n0f0x 3 [c03] = some y0f0x3 := by
    have e : Try.prog.cellsOf 3 = 1 := by kernel_rfl
    have h : DataW.trod enc Try.prog W 0 (fun _ => true) true n0f0x 3 ((([c00, c01, c02, c03, c04, c05, c06] : List Value).drop 3).take (Try.prog.cellsOf 3)) = some y0f0x3 := hhy0f0x3
    rw [e] at h
    exact h
  obtain ⟨y0f0x4, hhy0f0x4⟩ := hn0f0x 4 _ rfl
  have hy0f0x4 : DataW.trod enc Try.prog W 0 (fun _ => true) true n0f0x 3 [c04] = some y0f0x4 := by
    have e : Try.prog.cellsOf 3 = 1 := by kernel_rfl
    have h : DataW.trod enc Try.prog W 0 (fun _ => true) true n0f0x 3 ((([c00, c01, c02, c03, c04, c05, c06] : List Value).drop 4).take (Try.prog.cellsOf 3)) = some y0f0x4 := hhy0f0x4
    rw [e] at h
    exact h
  obtain ⟨y0f0x5, hhy0f0x5⟩ := hn0f0x 5 _ rfl
  have hy0f0x5 : DataW.trod enc Try.prog W 0 (fun _ => true) true n0f0x 3 [c05] = some y0f0x5 := by
    have e : Try.prog.cellsOf 3 = 1 := by kernel_rfl
    have h : DataW.trod enc Try.prog W 0 (fun _ => true) true n0f0x 3 ((([c00, c01, c02, c03, c04, c05, c06] : List Value).drop 5).take (Try.prog.cellsOf 3)) = some y0f0x5 := hhy0f0x5
    rw [e] at h
    exact h
  obtain ⟨y0f0x6, hhy0f0x6⟩ := hn0f0x 6 _ rfl
  have hy0f0x6 : DataW.trod enc Try.prog W 0 (fun _ => true) true n0f0x 3 [c06] = some y0f0x6 := by
    have e : Try.prog.cellsOf 3 = 1 := by kernel_rfl
    have h : DataW.trod enc Try.prog W 0 (fun _ => true) true n0f0x 3 ((([c00, c01, c02, c03, c04, c05, c06] : List Value).drop 6).take (Try.prog.cellsOf 3)) = some y0f0x6 := hhy0f0x6
    rw [e] at h
    exact h
  obtain ⟨y0f1, hhy0f1⟩ := hn0f 1 _ rfl
  have hy0f1 : DataW.trod enc Try.prog W 0 (fun _ => true) true n0f 24 [c07] = some y0f1 := by
    have e : Try.prog.cellsOf 24 = 1 := by kernel_rfl
    have h : DataW.trod enc Try.prog W 0 (fun _ => true) true n0f 24 ((([c00, c01, c02, c03, c04, c05, c06, c07, c08] : List Value).drop 7).take (Try.prog.cellsOf 24)) = some y0f1 := hhy0f1
    rw [e] at h
    exact h
  obtain ⟨y0f2, hhy0f2⟩ := hn0f 2 _ rfl
  have hy0f2 : DataW.trod enc Try.prog W 0 (fun _ => true) true n0f 24 [c08] = some y0f2 := by
    have e : Try.prog.cellsOf 24 = 1 := by kernel_rfl
    have h : DataW.trod enc Try.prog W 0 (fun _ => true) true n0f 24 ((([c00, c01, c02, c03, c04, c05, c06, c07, c08] : List Value).drop 8).take (Try.prog.cellsOf 24)) = some y0f2 := hhy0f2
    rw [e] at h
    exact h
  obtain ⟨b00, e00, _, w00⟩ := DataW.trod_int Try.underlying3 hy0f0x0
  simp only [List.cons.injEq, and_true] at e00
  subst e00
  obtain ⟨b01, e01, _, w01⟩ := DataW.trod_int Try.underlying3 hy0f0x1
  simp only [List.cons.injEq, and_true] at e01
  subst e01
  obtain ⟨b02, e02, _, w02⟩ := DataW.trod_int Try.underlying3 hy0f0x2
  simp only [List.cons.injEq, and_true] at e02
  subst e02
  obtain ⟨b03, e03, _, w03⟩ := DataW.trod_int Try.underlying3 hy0f0x3
  simp only [List.cons.injEq, and_true] at e03
  subst e03
  obtain ⟨b04, e04, _, w04⟩ := DataW.trod_int Try.underlying3 hy0f0x4
  simp only [List.cons.injEq, and_true] at e04
  subst e04
  obtain ⟨b05, e05, _, w05⟩ := DataW.trod_int Try.underlying3 hy0f0x5
  simp only [List.cons.injEq, and_true] at e05
  subst e05
  obtain ⟨b06, e06, _, w06⟩ := DataW.trod_int Try.underlying3 hy0f0x6
  simp only [List.cons.injEq, and_true] at e06
  subst e06
  obtain ⟨a07, len07, cap07, e07, w07⟩ : ∃ a len cap, c07 = .slice a len cap ∧ IsTable W a len cap := by
    rcases Go.Deep.open_int_rows Try.underlying24 Try.underlying39 Try.underlying21 (by kernel_rfl) (by kernel_rfl) hy0f1 with ⟨hcs, _⟩ | ⟨x, l, c, A, L, C, Z, hcs, _, hl, hm, _, hr⟩
    · simp only [List.cons.injEq, and_true] at hcs
      exact ⟨none, 0, 0, hcs, .inl ⟨rfl, rfl, rfl⟩⟩
    · simp only [List.cons.injEq, and_true] at hcs
      refine ⟨some x, l, c, hcs, .inr ⟨x, A, L, C, Z, rfl, hl, hm, fun r hr' => ?_⟩⟩
      obtain ⟨q1, q2, q3, q4, q5, q6, q7⟩ := hr r hr'
      exact ⟨q1, q2, q3, q4, q5, q6, fun a' ha => (q7 a' ha).2⟩
  subst e07
  obtain ⟨a08, len08, cap08, e08, w08⟩ : ∃ a len cap, c08 = .slice a len cap ∧ IsTable W a len cap := by
    rcases Go.Deep.open_int_rows Try.underlying24 Try.underlying39 Try.underlying21 (by kernel_rfl) (by kernel_rfl) hy0f2 with ⟨hcs, _⟩ | ⟨x, l, c, A, L, C, Z, hcs, _, hl, hm, _, hr⟩
    · simp only [List.cons.injEq, and_true] at hcs
      exact ⟨none, 0, 0, hcs, .inl ⟨rfl, rfl, rfl⟩⟩
    · simp only [List.cons.injEq, and_true] at hcs
      refine ⟨some x, l, c, hcs, .inr ⟨x, A, L, C, Z, rfl, hl, hm, fun r hr' => ?_⟩⟩
      obtain ⟨q1, q2, q3, q4, q5, q6, q7⟩ := hr r hr'
      exact ⟨q1, q2, q3, q4, q5, q6, fun a' ha => (q7 a' ha).2⟩
  subst e08
  obtain ⟨a1, rfl, rfl, rfl, w1⟩ := open_int Try.underlying3 (hval 1 3 v1 rfl rfl) h1
  obtain ⟨a2, rfl, rfl, rfl, w2⟩ := open_int Try.underlying3 (hval 2 3 v2 rfl rfl) h2
  clear hA0 hval0
  refine (walk b00 b01 b02 b03 b04 b05 b06 a07 len07 cap07 a08 len08 cap08 a1 a2 W w00 w01 w02 w03 w04 w05 w06 w07 w08 w1 w2).mono fun e W' ⟨he, bel⟩ => ?_
  subst he
  exact ⟨_, rfl, _, _, _, [], _, [], hW', trodAll_mk1 (shut_bool Try.underlying4 _), (trodAll_cons_mk (Below.trod laidOut (by kernel_rfl) (of_decide_eq_true (by kernel_rfl)) k0 bel lt0) (trodAll_cons_mk (shut_int Try.underlying3 w1) (trodAll_cons_mk (shut_int Try.underlying3 w2) trodAll_mk0))), rfl, bel.frame _, fun h => by cases h⟩

theorem over : Rows.pagePlacesRow.holds Try.pinned (OpenSpec.ofChange Rows.pagePlacesSpec) :=
  OpenClaim.holds_of_wide 5 Try.f5 rfl rfl rfl rfl rfl rfl rfl ⟨rfl, rfl, rfl, rfl, rfl⟩ rfl rfl rfl rfl rfl (by kernel_rfl) Try.func5 (by kernel_rfl)
    (of_decide_eq_true (by kernel_rfl)) (by unfold Func.isWrapper; first | (rw [if_pos (by decide +kernel)]; kernel_rfl) | (rw [if_neg (by decide +kernel)]; exact ⟨rfl, rfl⟩))
    (fun os started H enc _ => lifted os started H enc)

theorem proved : Rows.PagePlacesSaid := over
end Go.Proofs.Ytgfaehhkbkfmhaa.pagePlaces

namespace Go.Proofs.Ytgfaehhkbkfmhaa
theorem pagePlaces_holds : Rows.PagePlacesSaid := pagePlaces.proved
#print axioms pagePlaces_holds
end Go.Proofs.Ytgfaehhkbkfmhaa
