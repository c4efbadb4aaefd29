/- Contracts of package page: New. -/
import Derived.Test.YtgpjmbhcfjafmaaPaPack
namespace Go.Proofs.Ytgpjmbhcfjafmaa
set_option linter.unusedVariables false
open Go.RowKit
attribute [local go_sem ↓] Go.wp_at_zero Go.wp_at_succ

theorem box_cells {w v : World} {X : Array Value} {s : TypeId} (hb : Below (w.alloc (.cells X s)).heap.size (w.alloc (.cells X s)) v) : ∀ i x, X[i]? = some x → v.cell? ⟨w.heap.size, i, none⟩ = some x := fun i x hx => by
  rw [hb.cell (p := ⟨w.heap.size, i, none⟩) (by simp), cell_of_row _ _ _ _ _ _ (heap_alloc_new w _)]
  exact hx
/-- The seven numbers of a head in a box. -/
def HdAt (u : World) (g : Nat) (h0 h1 h2 h3 h4 h5 h6 : Int) : Prop := u.cell? ⟨g, 0, none⟩ = some (.int .i64 h0) ∧ u.cell? ⟨g, 1, none⟩ = some (.int .i64 h1) ∧ u.cell? ⟨g, 2, none⟩ = some (.int .i64 h2) ∧ u.cell? ⟨g, 3, none⟩ = some (.int .i64 h3) ∧ u.cell? ⟨g, 4, none⟩ = some (.int .i64 h4) ∧ u.cell? ⟨g, 5, none⟩ = some (.int .i64 h5) ∧ u.cell? ⟨g, 6, none⟩ = some (.int .i64 h6)
theorem hd_box {w v : World} {h0 h1 h2 h3 h4 h5 h6 : Int} {s : TypeId} (hb : Below (w.alloc (.cells #[.int .i64 h0, .int .i64 h1, .int .i64 h2, .int .i64 h3, .int .i64 h4, .int .i64 h5, .int .i64 h6] s)).heap.size (w.alloc (.cells #[.int .i64 h0, .int .i64 h1, .int .i64 h2, .int .i64 h3, .int .i64 h4, .int .i64 h5, .int .i64 h6] s)) v) : HdAt v w.heap.size h0 h1 h2 h3 h4 h5 h6 :=
  ⟨box_cells hb 0 _ rfl, box_cells hb 1 _ rfl, box_cells hb 2 _ rfl, box_cells hb 3 _ rfl, box_cells hb 4 _ rfl, box_cells hb 5 _ rfl, box_cells hb 6 _ rfl⟩
theorem HdAt.keep {u v : World} {g : Nat} {h0 h1 h2 h3 h4 h5 h6 : Int} (h : HdAt u g h0 h1 h2 h3 h4 h5 h6) (hb : Below u.heap.size u v) : HdAt v g h0 h1 h2 h3 h4 h5 h6 := by
  obtain ⟨a, b, c, d, e, f, k⟩ := h
  have hlt := World.block_lt_of_cell? u _ a
  refine ⟨?_, ?_, ?_, ?_, ?_, ?_, ?_⟩
  · rw [hb.cell (p := ⟨g, 0, none⟩) hlt]; exact a
  · rw [hb.cell (p := ⟨g, 1, none⟩) hlt]; exact b
  · rw [hb.cell (p := ⟨g, 2, none⟩) hlt]; exact c
  · rw [hb.cell (p := ⟨g, 3, none⟩) hlt]; exact d
  · rw [hb.cell (p := ⟨g, 4, none⟩) hlt]; exact e
  · rw [hb.cell (p := ⟨g, 5, none⟩) hlt]; exact f
  · rw [hb.cell (p := ⟨g, 6, none⟩) hlt]; exact k

set_option maxRecDepth 100000 in
set_option maxHeartbeats 3200000 in
theorem newP_bad (h0 h1 h2 h3 h4 h5 h6 : Int) (a1 a2 : Option Addr) (c1 c2 : Nat) (ks vs : List (Int × Int × List Int)) (e : Int) (w : World) (ha : Gps w a1 ks) (hb : Gps w a2 vs) (lk : ks.length ≤ 10000) (lv : vs.length ≤ 10000) (ik : InG ks) (iv : InG vs) (he : Pg.newE [h0, h1, h2, h3, h4, h5, h6] ks vs = e) (hne : ¬ e = 0) :
    Calls Try.prog 38 #[.agg #[.int .i64 h0, .int .i64 h1, .int .i64 h2, .int .i64 h3, .int .i64 h4, .int .i64 h5, .int .i64 h6], .slice a1 ks.length c1, .slice a2 vs.length c2] w fun r w' => r = .returned (.tuple #[.pointer none, .int .i64 e]) ∧ Below w.heap.size w w' := by
  have HA : Hid (Gps w a1 ks) := ha
  have HB : Hid (Gps w a2 vs) := hb
  have IK : Hid (InG ks) := ik
  have IV : Hid (InG vs) := iv
  have LK : Hid (ks.length ≤ maxLen) := by show ks.length ≤ maxLen; unfold maxLen; omega
  have LV : Hid (vs.length ≤ maxLen) := by show vs.length ≤ maxLen; unfold maxLen; omega
  clear ha hb ik iv
  have HE : Hid (Pg.newE [h0, h1, h2, h3, h4, h5, h6] ks vs = e) := he
  clear he
  obtain ⟨q, eq⟩ : ∃ q, Pg.rightH [h0, h1, h2, h3, h4, h5, h6] = q := ⟨_, rfl⟩
  have EQ : Hid (Pg.rightH [h0, h1, h2, h3, h4, h5, h6] = q) := eq
  obtain ⟨p1, ep1⟩ : ∃ p, Pg.shapeB ks h3 h2 = p := ⟨_, rfl⟩
  obtain ⟨p2, ep2⟩ : ∃ p, Pg.shapeB vs h2 h3 = p := ⟨_, rfl⟩
  have P1 : Hid (Pg.shapeB ks h3 h2 = p1) := ep1
  have P2 : Hid (Pg.shapeB vs h2 h3 = p2) := ep2
  clear eq ep1 ep2
  cases q
  · have ee : e = 11 := by rw [← HE.out]; unfold Pg.newE; rw [if_pos EQ.out]
    subst ee
    go_enter Try.func38, Try.ntmps38
    go_wp2_with fail
    obtain ⟨u0, hu0⟩ : ∃ u, w.alloc (.cells #[.int .i64 h0, .int .i64 h1, .int .i64 h2, .int .i64 h3, .int .i64 h4, .int .i64 h5, .int .i64 h6] 48) = u := ⟨_, rfl⟩
    have U0 : Hid (Below w.heap.size w u0) := by rw [← hu0]; exact box_below _ _
    have HD : Hid (∀ v, Below u0.heap.size u0 v → HdAt v w.heap.size h0 h1 h2 h3 h4 h5 h6) := by rw [← hu0]; exact fun v hb => hd_box hb
    rw [hu0]
    clear hu0
    refine (rightP_any _ _ _ _ _ _ _ false EQ.out _).mono ?_
    rintro r v0 ⟨rfl, hb⟩
    have B0 : Hid (Below u0.heap.size u0 v0) := hb
    obtain ⟨x0, x1, x2, x3, _, _, _⟩ := HD.out v0 B0.out
    clear hb
    go_wp2
    go_ret2
    exact ⟨rfl, below_then U0.out B0.out⟩
  · cases p1
    · have ee : e = 25 := by rw [← HE.out]; unfold Pg.newE; rw [if_neg (by rw [EQ.out]; simp), if_pos (show Pg.shapeB ks (Ls.nth [h0, h1, h2, h3, h4, h5, h6] 3) (Ls.nth [h0, h1, h2, h3, h4, h5, h6] 2) = false from P1.out)]
      subst ee
      go_enter Try.func38, Try.ntmps38
      go_wp2_with fail
      obtain ⟨u0, hu0⟩ : ∃ u, w.alloc (.cells #[.int .i64 h0, .int .i64 h1, .int .i64 h2, .int .i64 h3, .int .i64 h4, .int .i64 h5, .int .i64 h6] 48) = u := ⟨_, rfl⟩
      have U0 : Hid (Below w.heap.size w u0) := by rw [← hu0]; exact box_below _ _
      have HD : Hid (∀ v, Below u0.heap.size u0 v → HdAt v w.heap.size h0 h1 h2 h3 h4 h5 h6) := by rw [← hu0]; exact fun v hb => hd_box hb
      rw [hu0]
      clear hu0
      refine (rightP_any _ _ _ _ _ _ _ true EQ.out _).mono ?_
      rintro r v0 ⟨rfl, hb⟩
      have B0 : Hid (Below u0.heap.size u0 v0) := hb
      obtain ⟨x0, x1, x2, x3, _, _, _⟩ := HD.out v0 B0.out
      clear hb
      go_wp2_with fail
      refine (groupsOf_any _ _ ks _ _ false _ (HA.out.keep (below_then U0.out B0.out)) LK.out P1.out).mono ?_
      rintro r v1 ⟨rfl, hb⟩
      clear x0 x1 x2 x3
      have B1 : Hid (Below u0.heap.size u0 v1) := below_then B0.out hb
      obtain ⟨x0, x1, x2, x3, _, _, _⟩ := HD.out v1 B1.out
      clear hb
      go_wp2
      go_ret2
      exact ⟨rfl, below_then U0.out B1.out⟩
    · cases p2
      · have ee : e = 25 := by rw [← HE.out]; unfold Pg.newE; rw [if_neg (by rw [EQ.out]; simp), if_neg (by rw [show Pg.shapeB ks (Ls.nth [h0, h1, h2, h3, h4, h5, h6] 3) (Ls.nth [h0, h1, h2, h3, h4, h5, h6] 2) = true from P1.out]; simp), if_pos (show Pg.shapeB vs (Ls.nth [h0, h1, h2, h3, h4, h5, h6] 2) (Ls.nth [h0, h1, h2, h3, h4, h5, h6] 3) = false from P2.out)]
        subst ee
        go_enter Try.func38, Try.ntmps38
        go_wp2_with fail
        obtain ⟨u0, hu0⟩ : ∃ u, w.alloc (.cells #[.int .i64 h0, .int .i64 h1, .int .i64 h2, .int .i64 h3, .int .i64 h4, .int .i64 h5, .int .i64 h6] 48) = u := ⟨_, rfl⟩
        have U0 : Hid (Below w.heap.size w u0) := by rw [← hu0]; exact box_below _ _
        have HD : Hid (∀ v, Below u0.heap.size u0 v → HdAt v w.heap.size h0 h1 h2 h3 h4 h5 h6) := by rw [← hu0]; exact fun v hb => hd_box hb
        rw [hu0]
        clear hu0
        refine (rightP_any _ _ _ _ _ _ _ true EQ.out _).mono ?_
        rintro r v0 ⟨rfl, hb⟩
        have B0 : Hid (Below u0.heap.size u0 v0) := hb
        obtain ⟨x0, x1, x2, x3, _, _, _⟩ := HD.out v0 B0.out
        clear hb
        go_wp2_with fail
        refine (groupsOf_any _ _ ks _ _ true _ (HA.out.keep (below_then U0.out B0.out)) LK.out P1.out).mono ?_
        rintro r v1 ⟨rfl, hb⟩
        clear x0 x1 x2 x3
        have B1 : Hid (Below u0.heap.size u0 v1) := below_then B0.out hb
        obtain ⟨x0, x1, x2, x3, _, _, _⟩ := HD.out v1 B1.out
        clear hb
        go_wp2_with fail
        refine (groupsOf_any _ _ vs _ _ false _ (HB.out.keep (below_then U0.out B1.out)) LV.out P2.out).mono ?_
        rintro r v2 ⟨rfl, hb⟩
        clear x0 x1 x2 x3
        have B2 : Hid (Below u0.heap.size u0 v2) := below_then B1.out hb
        obtain ⟨x0, x1, x2, x3, _, _, _⟩ := HD.out v2 B2.out
        clear hb
        go_wp2
        go_ret2
        exact ⟨rfl, below_then U0.out B2.out⟩
      · have S1 : Hid (Pg.shapeB ks (Ls.nth [h0, h1, h2, h3, h4, h5, h6] 3) (Ls.nth [h0, h1, h2, h3, h4, h5, h6] 2) = true) := P1.out
        have S2 : Hid (Pg.shapeB vs (Ls.nth [h0, h1, h2, h3, h4, h5, h6] 2) (Ls.nth [h0, h1, h2, h3, h4, h5, h6] 3) = true) := P2.out
        obtain ⟨qa, qb, qc, qd, qe, qf, _⟩ := Pg.rightH_all EQ.out
        have qa' : h0 = 2 ∨ h0 = 4 ∨ h0 = 8 := qa
        have qb' : h1 = 2 ∨ h1 = 4 ∨ h1 = 8 := qb
        have qc' : 1 ≤ h2 := qc
        have qd' : h2 ≤ 16 := qd
        have qe' : 1 ≤ h3 := qe
        have qf' : h3 ≤ 16 := qf
        obtain ⟨m0, s0, rfl, st0⟩ := Pg.okB_st (show Gp.okB h0 = true by unfold Gp.okB; rcases qa' with rfl | rfl | rfl <;> rfl)
        obtain ⟨m1, s1, rfl, st1⟩ := Pg.okB_st (show Gp.okB h1 = true by unfold Gp.okB; rcases qb' with rfl | rfl | rfl <;> rfl)
        obtain ⟨n0, rfl⟩ := Int.eq_ofNat_of_zero_le (show 0 ≤ h2 by omega)
        obtain ⟨d0, rfl⟩ := Int.eq_ofNat_of_zero_le (show 0 ≤ h3 by omega)
        have q1 : 1 ≤ n0 := by omega
        have q2 : n0 ≤ 256 := by omega
        have q3 : 1 ≤ d0 := by omega
        have q4 : d0 ≤ 256 := by omega
        have ST0 : Hid (Gp.St m0 s0) := st0
        have ST1 : Hid (Gp.St m1 s1) := st1
        have SK : Hid (∀ i, i < ks.length → (Pg.gc (Pg.nth ks i)).length = n0) := fun i hi => by have := (Pg.shapeB_all P1.out).1 i hi; omega
        have SV : Hid (∀ i, i < vs.length → (Pg.gc (Pg.nth vs i)).length = d0) := fun i hi => by have := (Pg.shapeB_all P2.out).1 i hi; omega
        have t0 : Pg.top (m0 : Int) = s0 := Pg.top_st st0
        have t1 : Pg.top (m1 : Int) = s1 := Pg.top_st st1
        clear qa qb qc qd qe qf qa' qb' qc' qd' qe' qf' st0 st1
        by_cases r0 : Pg.rightsN (s0 : Int) ks ks.length = 0
        · have RK : Hid (Pg.rightsN (s0 : Int) ks ks.length = 0) := r0
          have ev : Pg.rightsN (s1 : Int) vs vs.length = e := by
            rw [← HE.out, Pg.newE_vals EQ.out S1.out S2.out (by show Pg.rightsN (Pg.top (m0 : Int)) ks ks.length = 0; rw [t0]; exact r0)]
            show _ = Pg.rightsN (Pg.top (m1 : Int)) vs vs.length
            rw [t1]
          have RV : Hid (Pg.rightsN (s1 : Int) vs vs.length = e) := ev
          have g1 : (e != 0) = true := by simpa using hne
          clear ev r0
          go_enter Try.func38, Try.ntmps38
          go_wp2_with fail
          obtain ⟨u0, hu0⟩ : ∃ u, w.alloc (.cells #[.int .i64 (m0 : Int), .int .i64 (m1 : Int), .int .i64 (n0 : Int), .int .i64 (d0 : Int), .int .i64 h4, .int .i64 h5, .int .i64 h6] 48) = u := ⟨_, rfl⟩
          have U0 : Hid (Below w.heap.size w u0) := by rw [← hu0]; exact box_below _ _
          have HD : Hid (∀ v, Below u0.heap.size u0 v → HdAt v w.heap.size m0 m1 n0 d0 h4 h5 h6) := by rw [← hu0]; exact fun v hb => hd_box hb
          rw [hu0]
          clear hu0
          refine (rightP_any _ _ _ _ _ _ _ true EQ.out _).mono ?_
          rintro r v0 ⟨rfl, hb⟩
          have B0 : Hid (Below u0.heap.size u0 v0) := hb
          obtain ⟨x0, x1, x2, x3, _, _, _⟩ := HD.out v0 B0.out
          clear hb
          go_wp2_with fail
          refine (groupsOf_any _ _ ks _ _ true _ (HA.out.keep (below_then U0.out B0.out)) LK.out P1.out).mono ?_
          rintro r v1 ⟨rfl, hb⟩
          clear x0 x1 x2 x3
          have B1 : Hid (Below u0.heap.size u0 v1) := below_then B0.out hb
          obtain ⟨x0, x1, x2, x3, _, _, _⟩ := HD.out v1 B1.out
          clear hb
          go_wp2_with fail
          refine (groupsOf_any _ _ vs _ _ true _ (HB.out.keep (below_then U0.out B1.out)) LV.out P2.out).mono ?_
          rintro r v2 ⟨rfl, hb⟩
          clear x0 x1 x2 x3
          have B2 : Hid (Below u0.heap.size u0 v2) := below_then B1.out hb
          obtain ⟨x0, x1, x2, x3, _, _, _⟩ := HD.out v2 B2.out
          clear hb
          go_wp2_with fail
          refine (allRight_any _ _ m0 s0 n0 ks 0 _ (HA.out.keep (below_then U0.out B2.out)) lk ST0.out SK.out q1 q2 IK.out RK.out).mono ?_
          rintro r v3 ⟨rfl, hb⟩
          clear x0 x1 x2 x3
          have B3 : Hid (Below u0.heap.size u0 v3) := below_then B2.out hb
          obtain ⟨x0, x1, x2, x3, _, _, _⟩ := HD.out v3 B3.out
          clear hb
          go_wp2_with fail
          refine (allRight_any _ _ m1 s1 d0 vs e _ (HB.out.keep (below_then U0.out B3.out)) lv ST1.out SV.out q3 q4 IV.out RV.out).mono ?_
          rintro r v4 ⟨rfl, hb⟩
          clear x0 x1 x2 x3
          have B4 : Hid (Below u0.heap.size u0 v4) := below_then B3.out hb
          obtain ⟨x0, x1, x2, x3, _, _, _⟩ := HD.out v4 B4.out
          clear hb
          go_wp2
          go_ret2
          exact ⟨rfl, below_then U0.out B4.out⟩
        · obtain ⟨y, ey⟩ : ∃ y, Pg.rightsN (s0 : Int) ks ks.length = y := ⟨_, rfl⟩
          have RK : Hid (Pg.rightsN (s0 : Int) ks ks.length = y) := ey
          have ee : e = y := by
            rw [← HE.out, Pg.newE_keys EQ.out S1.out S2.out (by show ¬ Pg.rightsN (Pg.top (m0 : Int)) ks ks.length = 0; rw [t0]; exact r0)]
            show Pg.rightsN (Pg.top (m0 : Int)) ks ks.length = y
            rw [t0, ey]
          subst ee
          have g1 : (e != 0) = true := by simpa using hne
          clear ey r0
          go_enter Try.func38, Try.ntmps38
          go_wp2_with fail
          obtain ⟨u0, hu0⟩ : ∃ u, w.alloc (.cells #[.int .i64 (m0 : Int), .int .i64 (m1 : Int), .int .i64 (n0 : Int), .int .i64 (d0 : Int), .int .i64 h4, .int .i64 h5, .int .i64 h6] 48) = u := ⟨_, rfl⟩
          have U0 : Hid (Below w.heap.size w u0) := by rw [← hu0]; exact box_below _ _
          have HD : Hid (∀ v, Below u0.heap.size u0 v → HdAt v w.heap.size m0 m1 n0 d0 h4 h5 h6) := by rw [← hu0]; exact fun v hb => hd_box hb
          rw [hu0]
          clear hu0
          refine (rightP_any _ _ _ _ _ _ _ true EQ.out _).mono ?_
          rintro r v0 ⟨rfl, hb⟩
          have B0 : Hid (Below u0.heap.size u0 v0) := hb
          obtain ⟨x0, x1, x2, x3, _, _, _⟩ := HD.out v0 B0.out
          clear hb
          go_wp2_with fail
          refine (groupsOf_any _ _ ks _ _ true _ (HA.out.keep (below_then U0.out B0.out)) LK.out P1.out).mono ?_
          rintro r v1 ⟨rfl, hb⟩
          clear x0 x1 x2 x3
          have B1 : Hid (Below u0.heap.size u0 v1) := below_then B0.out hb
          obtain ⟨x0, x1, x2, x3, _, _, _⟩ := HD.out v1 B1.out
          clear hb
          go_wp2_with fail
          refine (groupsOf_any _ _ vs _ _ true _ (HB.out.keep (below_then U0.out B1.out)) LV.out P2.out).mono ?_
          rintro r v2 ⟨rfl, hb⟩
          clear x0 x1 x2 x3
          have B2 : Hid (Below u0.heap.size u0 v2) := below_then B1.out hb
          obtain ⟨x0, x1, x2, x3, _, _, _⟩ := HD.out v2 B2.out
          clear hb
          go_wp2_with fail
          refine (allRight_any _ _ m0 s0 n0 ks e _ (HA.out.keep (below_then U0.out B2.out)) lk ST0.out SK.out q1 q2 IK.out RK.out).mono ?_
          rintro r v3 ⟨rfl, hb⟩
          clear x0 x1 x2 x3
          have B3 : Hid (Below u0.heap.size u0 v3) := below_then B2.out hb
          obtain ⟨x0, x1, x2, x3, _, _, _⟩ := HD.out v3 B3.out
          clear hb
          go_wp2
          go_ret2
          exact ⟨rfl, below_then U0.out B3.out⟩

set_option maxRecDepth 100000 in
set_option maxHeartbeats 3200000 in
theorem newP_ok (m0 m1 n0 d0 : Nat) (h4 h5 h6 : Int) (a1 a2 : Option Addr) (c1 c2 : Nat) (ks vs : List (Int × Int × List Int)) (w : World) (ha : Gps w a1 ks) (hb : Gps w a2 vs) (lk : ks.length ≤ 10000) (lv : vs.length ≤ 10000) (ik : InG ks) (iv : InG vs) (he : Pg.newE [(m0 : Int), m1, n0, d0, h4, h5, h6] ks vs = 0) :
    Calls Try.prog 38 #[.agg #[.int .i64 (m0 : Int), .int .i64 (m1 : Int), .int .i64 (n0 : Int), .int .i64 (d0 : Int), .int .i64 h4, .int .i64 h5, .int .i64 h6], .slice a1 ks.length c1, .slice a2 vs.length c2] w fun r w' => ∃ p, r = .returned (.tuple #[.pointer (some ⟨p, 0, none⟩), .int .i64 0]) ∧ w.heap.size ≤ p ∧ PageAt w' p m0 m1 n0 d0 h4 h5 h6 ks vs ∧ Below w.heap.size w w' := by
  have hp := Pg.newE_page (h := [(m0 : Int), m1, n0, d0, h4, h5, h6]) rfl ik iv he
  have HA : Hid (Gps w a1 ks) := ha
  have HB : Hid (Gps w a2 vs) := hb
  have IK : Hid (InG ks) := ik
  have IV : Hid (InG vs) := iv
  have LK : Hid (ks.length ≤ maxLen) := by show ks.length ≤ maxLen; unfold maxLen; omega
  have LV : Hid (vs.length ≤ maxLen) := by show vs.length ≤ maxLen; unfold maxLen; omega
  clear ha hb ik iv
  obtain ⟨hr, sk, sv, rk, rv⟩ := Pg.newE_zero he
  obtain ⟨qa, qb, qc, qd, qe, qf, _⟩ := Pg.rightH_all hr
  have qa' : (m0 : Int) = 2 ∨ (m0 : Int) = 4 ∨ (m0 : Int) = 8 := qa
  have qb' : (m1 : Int) = 2 ∨ (m1 : Int) = 4 ∨ (m1 : Int) = 8 := qb
  have q1 : 1 ≤ n0 := by have : (1 : Int) ≤ n0 := qc; omega
  have q2 : n0 ≤ 256 := by have : (n0 : Int) ≤ 16 := qd; omega
  have q3 : 1 ≤ d0 := by have : (1 : Int) ≤ d0 := qe; omega
  have q4 : d0 ≤ 256 := by have : (d0 : Int) ≤ 16 := qf; omega
  obtain ⟨m0', s0, e0, st0⟩ := Pg.okB_st (show Gp.okB (m0 : Int) = true by unfold Gp.okB; rcases qa' with e | e | e <;> rw [e] <;> rfl)
  obtain ⟨m1', s1, e1, st1⟩ := Pg.okB_st (show Gp.okB (m1 : Int) = true by unfold Gp.okB; rcases qb' with e | e | e <;> rw [e] <;> rfl)
  obtain rfl : m0 = m0' := by omega
  obtain rfl : m1 = m1' := by omega
  have EQ : Hid (Pg.rightH [(m0 : Int), m1, n0, d0, h4, h5, h6] = true) := hr
  have P1 : Hid (Pg.shapeB ks (d0 : Int) (n0 : Int) = true) := sk
  have P2 : Hid (Pg.shapeB vs (n0 : Int) (d0 : Int) = true) := sv
  have ST0 : Hid (Gp.St m0 s0) := st0
  have ST1 : Hid (Gp.St m1 s1) := st1
  have SK : Hid (∀ i, i < ks.length → (Pg.gc (Pg.nth ks i)).length = n0) := fun i hi => by have := (Pg.shapeB_all P1.out).1 i hi; omega
  have SV : Hid (∀ i, i < vs.length → (Pg.gc (Pg.nth vs i)).length = d0) := fun i hi => by have := (Pg.shapeB_all P2.out).1 i hi; omega
  have NK : Hid (ks.length = d0) := by show _ = _; have := (Pg.shapeB_all P1.out).2; omega
  have NV : Hid (vs.length = n0) := by show _ = _; have := (Pg.shapeB_all P2.out).2; omega
  have RK : Hid (Pg.rightsN (s0 : Int) ks ks.length = 0) := by rw [← Pg.top_st st0]; exact rk
  have RV : Hid (Pg.rightsN (s1 : Int) vs vs.length = 0) := by rw [← Pg.top_st st1]; exact rv
  have HP : Hid (Pg.Page [(m0 : Int), m1, n0, d0, h4, h5, h6] ks vs) := hp
  have FK : Hid (Pg.AllFit m0 n0 ks) := hp.2.2.2.2.1
  have FV : Hid (Pg.AllFit m1 d0 vs) := hp.2.2.2.2.2.1
  have OK0 : Hid (Pk.Ok m0) := St.ok st0
  have OK1 : Hid (Pk.Ok m1) := St.ok st1
  clear he hp hr sk sv rk rv qa qb qc qd qe qf qa' qb' e0 e1 st0 st1
  go_enter Try.func38, Try.ntmps38
  go_wp2_with fail
  obtain ⟨u0, hu0⟩ : ∃ u, w.alloc (.cells #[.int .i64 (m0 : Int), .int .i64 (m1 : Int), .int .i64 (n0 : Int), .int .i64 (d0 : Int), .int .i64 h4, .int .i64 h5, .int .i64 h6] 48) = u := ⟨_, rfl⟩
  have U0 : Hid (Below w.heap.size w u0) := by rw [← hu0]; exact box_below _ _
  have HD : Hid (∀ v, Below u0.heap.size u0 v → HdAt v w.heap.size m0 m1 n0 d0 h4 h5 h6) := by rw [← hu0]; exact fun v hb => hd_box hb
  rw [hu0]
  clear hu0
  refine (rightP_any _ _ _ _ _ _ _ true EQ.out _).mono ?_
  rintro r v0 ⟨rfl, hb⟩
  have B0 : Hid (Below u0.heap.size u0 v0) := hb
  obtain ⟨x0, x1, x2, x3, _, _, _⟩ := HD.out v0 B0.out
  clear hb
  go_wp2_with fail
  refine (groupsOf_any _ _ ks _ _ true _ (HA.out.keep (below_then U0.out B0.out)) LK.out P1.out).mono ?_
  rintro r v1 ⟨rfl, hb⟩
  clear x0 x1 x2 x3
  have B1 : Hid (Below u0.heap.size u0 v1) := below_then B0.out hb
  obtain ⟨x0, x1, x2, x3, _, _, _⟩ := HD.out v1 B1.out
  clear hb
  go_wp2_with fail
  refine (groupsOf_any _ _ vs _ _ true _ (HB.out.keep (below_then U0.out B1.out)) LV.out P2.out).mono ?_
  rintro r v2 ⟨rfl, hb⟩
  clear x0 x1 x2 x3
  have B2 : Hid (Below u0.heap.size u0 v2) := below_then B1.out hb
  obtain ⟨x0, x1, x2, x3, _, _, _⟩ := HD.out v2 B2.out
  clear hb
  go_wp2_with fail
  refine (allRight_any _ _ m0 s0 n0 ks 0 _ (HA.out.keep (below_then U0.out B2.out)) lk ST0.out SK.out q1 q2 IK.out RK.out).mono ?_
  rintro r v3 ⟨rfl, hb⟩
  clear x0 x1 x2 x3
  have B3 : Hid (Below u0.heap.size u0 v3) := below_then B2.out hb
  obtain ⟨x0, x1, x2, x3, _, _, _⟩ := HD.out v3 B3.out
  clear hb
  go_wp2_with fail
  refine (allRight_any _ _ m1 s1 d0 vs 0 _ (HB.out.keep (below_then U0.out B3.out)) lv ST1.out SV.out q3 q4 IV.out RV.out).mono ?_
  rintro r v4 ⟨rfl, hb⟩
  clear x0 x1 x2 x3
  have B4 : Hid (Below u0.heap.size u0 v4) := below_then B3.out hb
  obtain ⟨x0, x1, x2, x3, _, _, _⟩ := HD.out v4 B4.out
  clear hb
  go_wp2_with fail
  clear x0 x1 x2 x3
  have KS : Hid (∀ w', Below v4.heap.size v4 w' → HdAt w' w.heap.size m0 m1 n0 d0 h4 h5 h6 ∧ Hid (Below v4.heap.size v4 w')) := fun w' hb => ⟨HD.out w' (below_then B4.out hb), hb⟩
  unfold HdAt at KS
  go_region_held3 (fun w' => (w'.cell? ⟨w.heap.size, 0, none⟩ = some (.int .i64 (m0 : Int)) ∧ w'.cell? ⟨w.heap.size, 1, none⟩ = some (.int .i64 (m1 : Int)) ∧ w'.cell? ⟨w.heap.size, 2, none⟩ = some (.int .i64 (n0 : Int)) ∧ w'.cell? ⟨w.heap.size, 3, none⟩ = some (.int .i64 (d0 : Int)) ∧ w'.cell? ⟨w.heap.size, 4, none⟩ = some (.int .i64 h4) ∧ w'.cell? ⟨w.heap.size, 5, none⟩ = some (.int .i64 h5) ∧ w'.cell? ⟨w.heap.size, 6, none⟩ = some (.int .i64 h6)) ∧ Hid (Below v4.heap.size v4 w'))
    (first
      | exact KS.out _ ((Below.refl v4.heap.size v4).drew)
      | exact KS.out _ hbd.out
      | exact KS.out _ (below_then hbd.out (box_below _ _))
      | exact KS.out _ hbc.out
      | assumption)
    (first
      | (go_at_call 45; (with_reducible refine (packAll_any _ _ m0 n0 ks _ (HA.out.keep (below_then (below_then U0.out B4.out) ((Below.refl v4.heap.size v4).drew))) lk OK0.out FK.out q2).mono ?_); rintro e v5 ⟨g1, rfl, hg1, hk1, hb⟩; have hbc : Hid (Below v4.heap.size v4 v5) := ((Below.refl v4.heap.size v4).drew).trans hb; have K1 : Hid (Pks v5 g1 m0 ks) := hk1; clear hb hg1 hk1)
      | (go_at_call 45; (with_reducible refine (packAll_any _ _ m1 d0 vs _ (HB.out.keep (below_then (below_then U0.out B4.out) hbc.out)) lv OK1.out FV.out q4).mono ?_); rintro e v6 ⟨g2, rfl, hg2, hk2, hb⟩; have hbd : Hid (Below v4.heap.size v4 v6) := below_then hbc.out hb; have K2 : Hid (Pks v6 g1 m0 ks ∧ Pks v6 g2 m1 vs) := ⟨K1.out.keep hb, hk2⟩; clear hb hg2 hk2))
  go_wp2
  go_ret2
  refine ⟨v6.heap.size, rfl, (below_then U0.out (below_then B4.out hbd.out)).size, ⟨g1, g2, ?_, K2.out.1.keep (box_below _ _), K2.out.2.keep (box_below _ _), HP.out⟩, below_then (below_then U0.out (below_then B4.out hbd.out)) (box_below _ _)⟩
  rw [NK.out, NV.out]
  exact World.rowIs_alloc v6 _ 78 _ (fun i hi => by match i, hi with | 0, _ => rfl | 1, _ => rfl | 2, _ => rfl | 3, _ => rfl | 4, _ => rfl | 5, _ => rfl | 6, _ => rfl | 7, _ => rfl | 8, _ => rfl)
end Go.Proofs.Ytgpjmbhcfjafmaa
