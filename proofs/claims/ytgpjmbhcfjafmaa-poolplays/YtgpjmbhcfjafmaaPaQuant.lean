/- Contracts of package page: Quantize. -/
import Derived.Test.YtgpjmbhcfjafmaaPaTurn
namespace Go.Proofs.Ytgpjmbhcfjafmaa
set_option linter.unusedVariables false
open Go.RowKit
attribute [local go_sem ↓] Go.wp_at_zero Go.wp_at_succ

namespace Pg
theorem rightsN_none {s : Int} {l : List (Int × Int × List Int)} {k : Nat} (h : ∀ i, i < k → Gp.right s (gs (nth l i)) (gc (nth l i)) = 0) : rightsN s l k = 0 := by
  induction k with
  | zero => rfl
  | succ k ih => rw [rightsN_ok (ih fun i hi => h i (by omega))]; exact h k (by omega)
theorem top_pow {b : Int} (h : b = 2 ∨ b = 4 ∨ b = 8) : ((2 ^ b.toNat - 1 : Nat) : Int) = top b := by rcases h with rfl | rfl | rfl <;> rfl
/-- A page that may be is not refused. -/
theorem page_newE {h : List Int} {ks vs : List (Int × Int × List Int)} (hp : Page h ks vs) : newE h ks vs = 0 := by
  obtain ⟨_, hr, lk, lv, fk, fv, rk, rv⟩ := hp
  obtain ⟨a, b, c, d, e, f, _⟩ := rightH_all hr
  have e0 : top (Ls.nth h 0) = ((2 ^ kb h - 1 : Nat) : Int) := (top_pow a).symm
  have e1 : top (Ls.nth h 1) = ((2 ^ vb h - 1 : Nat) : Int) := (top_pow b).symm
  have sk : shapeB ks (Ls.nth h 3) (Ls.nth h 2) = true := by
    unfold shapeB
    refine decide_eq_true ⟨fun i hi => ?_, ?_⟩
    · have := (fk i hi).1; unfold tk at this; omega
    · unfold dm at lk; omega
  have sv : shapeB vs (Ls.nth h 2) (Ls.nth h 3) = true := by
    unfold shapeB
    refine decide_eq_true ⟨fun i hi => ?_, ?_⟩
    · have := (fv i hi).1; unfold dm at this; omega
    · unfold tk at lv; omega
  rw [newE_vals hr sk sv (by rw [e0]; exact rightsN_none rk), e1]
  exact rightsN_none rv
theorem fit_ing {b n : Nat} {l : List (Int × Int × List Int)} (h : AllFit b n l) (hn : n ≤ maxLen) : InG l := fun i hi => by
  obtain ⟨h1, _, h2, h3, h4, h5⟩ := h i hi
  exact ⟨h2, h3, h4, h5, by rw [h1]; exact hn⟩
theorem qv_cols (s : Int) (d : Nat) (ls : List (List Int)) : qv s (cols d ls) = qk s d ls := by
  apply ext_nth (by rw [qv_length, qk_length, cols_length])
  intro i hi
  rw [qv_length] at hi
  rw [nth_qv hi]
  rw [cols_length] at hi
  rw [nth_qk hi, row_cols hi]
end Pg

theorem groupAll_anym (a : Option Addr) (m c b s n : Nat) (ls : List (List Int)) (w : World) (hm : m = ls.length) (ha : Tbl w a ls) (hl : ls.length ≤ 256) (hst : Gp.St b s) (hx : ∀ k, Ls.In32 (Tb.row ls k)) (hr : ∀ k, k < ls.length → (Tb.row ls k).length = n) (h1 : 1 ≤ n) (h2 : n ≤ 256) :
    Calls Try.prog 39 #[.slice a m c, .int .i64 b] w fun e w' => ∃ g, e = .returned (.slice (some ⟨g, 0, none⟩) m m) ∧ w.heap.size ≤ g ∧ Gps w' (some ⟨g, 0, none⟩) (Pg.qv s ls) ∧ Below w.heap.size w w' := by
  subst hm
  exact groupAll_any a c b s n ls w ha hl hst hx hr h1 h2
theorem newP_okm (m0 m1 n0 d0 : Nat) (h4 h5 h6 : Int) (a1 a2 : Option Addr) (k1 k2 c1 c2 : Nat) (ks vs : List (Int × Int × List Int)) (w : World) (e1 : k1 = ks.length) (e2 : k2 = vs.length) (ha : Gps w a1 ks) (hb : Gps w a2 vs) (hp : Pg.Page [(m0 : Int), m1, n0, d0, h4, h5, h6] ks vs) :
    Calls Try.prog 38 #[.agg #[.int .i64 (m0 : Int), .int .i64 (m1 : Int), .int .i64 (n0 : Int), .int .i64 (d0 : Int), .int .i64 h4, .int .i64 h5, .int .i64 h6], .slice a1 k1 c1, .slice a2 k2 c2] w fun r w' => ∃ p, r = .returned (.tuple #[.pointer (some ⟨p, 0, none⟩), .int .i64 0]) ∧ w.heap.size ≤ p ∧ PageAt w' p m0 m1 n0 d0 h4 h5 h6 ks vs ∧ Below w.heap.size w w' := by
  subst e1 e2
  obtain ⟨_, _, qc, qd, qe, qf, _⟩ := Pg.rightH_all hp.2.1
  have qd' : (n0 : Int) ≤ 16 := qd
  have qf' : (d0 : Int) ≤ 16 := qf
  have lk : ks.length = d0 := hp.2.2.1
  have lv : vs.length = n0 := hp.2.2.2.1
  exact newP_ok m0 m1 n0 d0 h4 h5 h6 a1 a2 c1 c2 ks vs w ha hb (by omega) (by omega) (Pg.fit_ing hp.2.2.2.2.1 (show n0 ≤ maxLen by unfold maxLen; omega)) (Pg.fit_ing hp.2.2.2.2.2.1 (show d0 ≤ maxLen by unfold maxLen; omega)) (Pg.page_newE hp)

theorem quantP_range (h0 h1 h2 h3 h4 h5 h6 : Int) (a1 a2 : Option Addr) (c1 c2 : Nat) (k1 k2 : Nat) (w : World) (hq : Pg.rightH [h0, h1, h2, h3, h4, h5, h6] = false) :
    Calls Try.prog 31 #[.agg #[.int .i64 h0, .int .i64 h1, .int .i64 h2, .int .i64 h3, .int .i64 h4, .int .i64 h5, .int .i64 h6], .slice a1 k1 c1, .slice a2 k2 c2] w fun r w' => r = .returned (.tuple #[.pointer none, .int .i64 11]) ∧ Below w.heap.size w w' := by
  have EQ : Hid (Pg.rightH [h0, h1, h2, h3, h4, h5, h6] = false) := hq
  clear hq
  go_enter Try.func31, Try.ntmps31
  go_wp2_with fail
  obtain ⟨u0, hu0⟩ : ∃ u, w.alloc (.cells #[.int .i64 h0, .int .i64 h1, .int .i64 h2, .int .i64 h3, .int .i64 h4, .int .i64 h5, .int .i64 h6] 48) = u := ⟨_, rfl⟩
  have U0 : Hid (Below w.heap.size w u0) := by rw [← hu0]; exact box_below _ _
  have HD : Hid (∀ v, Below u0.heap.size u0 v → HdAt v w.heap.size h0 h1 h2 h3 h4 h5 h6) := by rw [← hu0]; exact fun v hb => hd_box hb
  rw [hu0]
  clear hu0
  refine (rightP_any _ _ _ _ _ _ _ false EQ.out _).mono ?_
  rintro r v0 ⟨rfl, hb⟩
  have B0 : Hid (Below u0.heap.size u0 v0) := hb
  obtain ⟨x0, x1, x2, x3, _, _, _⟩ := HD.out v0 B0.out
  clear hb
  go_wp2
  go_ret2
  exact ⟨rfl, below_then U0.out B0.out⟩

set_option maxHeartbeats 1600000 in
theorem quantP_shape (h0 h1 h2 h3 h4 h5 h6 : Int) (a1 a2 : Option Addr) (c1 c2 : Nat) (ks vs : List (List Int)) (w : World) (ha : Tbl w a1 ks) (hb : Tbl w a2 vs) (lk : ks.length ≤ maxLen) (lv : vs.length ≤ maxLen) (hq : Pg.rightH [h0, h1, h2, h3, h4, h5, h6] = true) (hs : (Pg.shapedB ks h2 h3 && Pg.shapedB vs h2 h3) = false) :
    Calls Try.prog 31 #[.agg #[.int .i64 h0, .int .i64 h1, .int .i64 h2, .int .i64 h3, .int .i64 h4, .int .i64 h5, .int .i64 h6], .slice a1 ks.length c1, .slice a2 vs.length c2] w fun r w' => r = .returned (.tuple #[.pointer none, .int .i64 25]) ∧ Below w.heap.size w w' := by
  have EQ : Hid (Pg.rightH [h0, h1, h2, h3, h4, h5, h6] = true) := hq
  have HA : Hid (Tbl w a1 ks) := ha
  have HB : Hid (Tbl w a2 vs) := hb
  have LK : Hid (ks.length ≤ maxLen) := lk
  have LV : Hid (vs.length ≤ maxLen) := lv
  obtain ⟨p1, ep1⟩ : ∃ p, Pg.shapedB ks h2 h3 = p := ⟨_, rfl⟩
  obtain ⟨p2, ep2⟩ : ∃ p, Pg.shapedB vs h2 h3 = p := ⟨_, rfl⟩
  rw [ep1, ep2] at hs
  have P1 : Hid (Pg.shapedB ks h2 h3 = p1) := ep1
  have P2 : Hid (Pg.shapedB vs h2 h3 = p2) := ep2
  clear ha hb lk lv hq ep1 ep2
  cases p1
  · clear hs
    go_enter Try.func31, Try.ntmps31
    go_wp2_with fail
    obtain ⟨u0, hu0⟩ : ∃ u, w.alloc (.cells #[.int .i64 h0, .int .i64 h1, .int .i64 h2, .int .i64 h3, .int .i64 h4, .int .i64 h5, .int .i64 h6] 48) = u := ⟨_, rfl⟩
    have U0 : Hid (Below w.heap.size w u0) := by rw [← hu0]; exact box_below _ _
    have HD : Hid (∀ v, Below u0.heap.size u0 v → HdAt v w.heap.size h0 h1 h2 h3 h4 h5 h6) := by rw [← hu0]; exact fun v hb => hd_box hb
    rw [hu0]
    clear hu0
    refine (rightP_any _ _ _ _ _ _ _ true EQ.out _).mono ?_
    rintro r v0 ⟨rfl, hb⟩
    have B0 : Hid (Below u0.heap.size u0 v0) := hb
    obtain ⟨x0, x1, x2, x3, _, _, _⟩ := HD.out v0 B0.out
    clear hb
    go_wp2_with fail
    refine (listsOf_any _ _ ks _ _ false _ (HA.out.keep (below_then U0.out B0.out)) LK.out P1.out).mono ?_
    rintro r v ⟨rfl, hw⟩
    cases hw.symm
    clear hw
    go_wp2
    go_ret2
    exact ⟨rfl, below_then U0.out B0.out⟩
  · cases p2
    · clear hs
      go_enter Try.func31, Try.ntmps31
      go_wp2_with fail
      obtain ⟨u0, hu0⟩ : ∃ u, w.alloc (.cells #[.int .i64 h0, .int .i64 h1, .int .i64 h2, .int .i64 h3, .int .i64 h4, .int .i64 h5, .int .i64 h6] 48) = u := ⟨_, rfl⟩
      have U0 : Hid (Below w.heap.size w u0) := by rw [← hu0]; exact box_below _ _
      have HD : Hid (∀ v, Below u0.heap.size u0 v → HdAt v w.heap.size h0 h1 h2 h3 h4 h5 h6) := by rw [← hu0]; exact fun v hb => hd_box hb
      rw [hu0]
      clear hu0
      refine (rightP_any _ _ _ _ _ _ _ true EQ.out _).mono ?_
      rintro r v0 ⟨rfl, hb⟩
      have B0 : Hid (Below u0.heap.size u0 v0) := hb
      obtain ⟨x0, x1, x2, x3, _, _, _⟩ := HD.out v0 B0.out
      clear hb
      go_wp2_with fail
      refine (listsOf_any _ _ ks _ _ true _ (HA.out.keep (below_then U0.out B0.out)) LK.out P1.out).mono ?_
      rintro r v ⟨rfl, hw⟩
      cases hw.symm
      clear hw
      go_wp2_with fail
      refine (listsOf_any _ _ vs _ _ false _ (HB.out.keep (below_then U0.out B0.out)) LV.out P2.out).mono ?_
      rintro r v ⟨rfl, hw⟩
      cases hw.symm
      clear hw
      go_wp2
      go_ret2
      exact ⟨rfl, below_then U0.out B0.out⟩
    · cases hs

set_option maxRecDepth 100000 in
set_option maxHeartbeats 1600000 in
theorem quantP_ok (m0 m1 n0 d0 s0 s1 : Nat) (h4 h5 h6 : Int) (a1 a2 : Option Addr) (c1 c2 : Nat) (ks vs : List (List Int)) (w : World) (st0 : Gp.St m0 s0) (st1 : Gp.St m1 s1)
    (hk : Tbl w a1 ks) (hv : Tbl w a2 vs) (ik : ∀ k, Ls.In32 (Tb.row ks k)) (iv : ∀ k, Ls.In32 (Tb.row vs k)) (hr : Pg.rightH [(m0 : Int), m1, n0, d0, h4, h5, h6] = true) (sk : Pg.shapedB ks n0 d0 = true) (sv : Pg.shapedB vs n0 d0 = true) :
    Calls Try.prog 31 #[.agg #[.int .i64 (m0 : Int), .int .i64 (m1 : Int), .int .i64 (n0 : Int), .int .i64 (d0 : Int), .int .i64 h4, .int .i64 h5, .int .i64 h6], .slice a1 ks.length c1, .slice a2 vs.length c2] w fun r w' => ∃ p, r = .returned (.tuple #[.pointer (some ⟨p, 0, none⟩), .int .i64 0]) ∧ w.heap.size ≤ p ∧ PageAt w' p m0 m1 n0 d0 h4 h5 h6 (Pg.qk s0 d0 ks) (Pg.qv s1 vs) ∧ Below w.heap.size w w' := by
  have HA : Hid (Tbl w a1 ks) := hk
  have HB : Hid (Tbl w a2 vs) := hv
  have IK : Hid (∀ k, Ls.In32 (Tb.row ks k)) := ik
  have IV : Hid (∀ k, Ls.In32 (Tb.row vs k)) := iv
  have EQ : Hid (Pg.rightH [(m0 : Int), m1, n0, d0, h4, h5, h6] = true) := hr
  have P1 : Hid (Pg.shapedB ks (n0 : Int) (d0 : Int) = true) := sk
  have P2 : Hid (Pg.shapedB vs (n0 : Int) (d0 : Int) = true) := sv
  have ST0 : Hid (Gp.St m0 s0) := st0
  have ST1 : Hid (Gp.St m1 s1) := st1
  unfold Pg.shapedB at sk sv
  simp only [decide_eq_true_eq] at sk sv
  obtain ⟨_, _, qc, qd, qe, qf, _⟩ := Pg.rightH_all hr
  have qc' : (1 : Int) ≤ n0 := qc
  have qd' : (n0 : Int) ≤ 16 := qd
  have qe' : (1 : Int) ≤ d0 := qe
  have qf' : (d0 : Int) ≤ 16 := qf
  have b1 : 1 ≤ n0 := by omega
  have b2 : n0 ≤ 16 := by omega
  have b3 : 1 ≤ d0 := by omega
  have b4 : d0 ≤ 16 := by omega
  have NK : Hid (ks.length = n0) := by show _ = _; have := sk.2; omega
  have NV : Hid (vs.length = n0) := by show _ = _; have := sv.2; omega
  have RK : Hid (∀ k, k < ks.length → (Tb.row ks k).length = d0) := fun k hk => by have := sk.1 k hk; omega
  have RV : Hid (∀ k, k < vs.length → (Tb.row vs k).length = d0) := fun k hk => by have := sv.1 k hk; omega
  have lk : ks.length ≤ 256 := by rw [NK.out]; omega
  have lv : vs.length ≤ 256 := by rw [NV.out]; omega
  have LK : Hid (ks.length ≤ maxLen) := by show ks.length ≤ maxLen; unfold maxLen; omega
  have LV : Hid (vs.length ≤ maxLen) := by show vs.length ≤ maxLen; unfold maxLen; omega
  have HP : Hid (Pg.Page [(m0 : Int), m1, n0, d0, h4, h5, h6] (Pg.qk s0 d0 ks) (Pg.qv s1 vs)) := Pg.quant_page (h := [(m0 : Int), m1, n0, d0, h4, h5, h6]) rfl hr rfl rfl st0 st1 ik iv sk.2 sv.2 sv.1
  have XK : Hid (∀ k, Ls.In32 (Tb.row (Pg.cols d0 ks) k)) := fun k => by
    by_cases e : k < d0
    · rw [Pg.row_cols e]; exact Pg.col_in ik k
    · rw [Tb.row_past (by rw [Pg.cols_length]; omega)]; intro i; rw [Ls.nth_nil]; omega
  have CL : Hid (d0 = (Pg.cols d0 ks).length) := (Pg.cols_length _ _).symm
  have CR : Hid (∀ k, k < (Pg.cols d0 ks).length → (Tb.row (Pg.cols d0 ks) k).length = n0) := fun k hk => by
    rw [Pg.cols_length] at hk
    rw [Pg.row_cols hk, Pg.col_length]
    exact NK.out
  clear hk hv ik iv hr sk sv st0 st1 qc qd qe qf qc' qd' qe' qf'
  go_enter Try.func31, Try.ntmps31
  go_wp2_with fail
  obtain ⟨u0, hu0⟩ : ∃ u, w.alloc (.cells #[.int .i64 (m0 : Int), .int .i64 (m1 : Int), .int .i64 (n0 : Int), .int .i64 (d0 : Int), .int .i64 h4, .int .i64 h5, .int .i64 h6] 48) = u := ⟨_, rfl⟩
  have U0 : Hid (Below w.heap.size w u0) := by rw [← hu0]; exact box_below _ _
  have HD : Hid (∀ v, Below u0.heap.size u0 v → HdAt v w.heap.size m0 m1 n0 d0 h4 h5 h6) := by rw [← hu0]; exact fun v hb => hd_box hb
  rw [hu0]
  clear hu0
  refine (rightP_any _ _ _ _ _ _ _ true EQ.out _).mono ?_
  rintro r v0 ⟨rfl, hb⟩
  have B0 : Hid (Below u0.heap.size u0 v0) := hb
  obtain ⟨x0, x1, x2, x3, _, _, _⟩ := HD.out v0 B0.out
  clear hb
  go_wp2_with fail
  refine (listsOf_any _ _ ks _ _ true _ (HA.out.keep (below_then U0.out B0.out)) LK.out P1.out).mono ?_
  rintro r v ⟨rfl, hw⟩
  cases hw.symm
  clear hw
  go_wp2_with fail
  refine (listsOf_any _ _ vs _ _ true _ (HB.out.keep (below_then U0.out B0.out)) LV.out P2.out).mono ?_
  rintro r v ⟨rfl, hw⟩
  cases hw.symm
  clear hw
  go_wp2_with fail
  clear x0 x1 x2 x3
  have KS : Hid (∀ w', Below v0.heap.size v0 w' → HdAt w' w.heap.size m0 m1 n0 d0 h4 h5 h6 ∧ Hid (Below v0.heap.size v0 w')) := fun w' hb => ⟨HD.out w' (below_then B0.out hb), hb⟩
  unfold HdAt at KS
  have BW : Hid (Below w.heap.size w v0) := below_then U0.out B0.out
  go_region_held3 (fun w' => (w'.cell? ⟨w.heap.size, 0, none⟩ = some (.int .i64 (m0 : Int)) ∧ w'.cell? ⟨w.heap.size, 1, none⟩ = some (.int .i64 (m1 : Int)) ∧ w'.cell? ⟨w.heap.size, 2, none⟩ = some (.int .i64 (n0 : Int)) ∧ w'.cell? ⟨w.heap.size, 3, none⟩ = some (.int .i64 (d0 : Int)) ∧ w'.cell? ⟨w.heap.size, 4, none⟩ = some (.int .i64 h4) ∧ w'.cell? ⟨w.heap.size, 5, none⟩ = some (.int .i64 h5) ∧ w'.cell? ⟨w.heap.size, 6, none⟩ = some (.int .i64 h6)) ∧ Hid (Below v0.heap.size v0 w'))
    (first
      | exact KS.out _ ((Below.refl v0.heap.size v0).drew)
      | exact KS.out _ b4'.out
      | exact KS.out _ b3'.out
      | exact KS.out _ b2'.out
      | exact KS.out _ b1'.out
      | assumption)
    (first
      | (go_at_call 40; refine (turned_any _ _ d0 ks _ (HA.out.keep (below_then BW.out ((Below.refl v0.heap.size v0).drew))) lk (by omega) RK.out).mono ?_; rintro e v1 ⟨g1, rfl, hg1, ht1, hb⟩; have b1' : Hid (Below v0.heap.size v0 v1) := ((Below.refl v0.heap.size v0).drew).trans hb; have T1 : Hid (Tbl v1 (some ⟨g1, 0, none⟩) (Pg.cols d0 ks)) := ht1; clear hb hg1 ht1)
      | (go_at_call 39; (with_reducible refine (groupAll_anym (some ⟨g1, 0, none⟩) d0 _ m0 s0 n0 (Pg.cols d0 ks) _ CL.out T1.out (by rw [← CL.out]; omega) ST0.out XK.out CR.out b1 (by omega)).mono ?_); rintro e v2 ⟨g2, rfl, hg2, ht2, hb⟩; have b2' : Hid (Below v0.heap.size v0 v2) := below_then b1'.out hb; have T2 : Hid (Gps v2 (some ⟨g2, 0, none⟩) (Pg.qk s0 d0 ks)) := (by rw [← Pg.qv_cols]; exact ht2); clear hb hg2 ht2)
      | (go_at_call 39; (with_reducible refine (groupAll_anym a2 _ _ m1 s1 d0 vs _ rfl (HB.out.keep (below_then BW.out b2'.out)) lv ST1.out IV.out RV.out b3 (by omega)).mono ?_); rintro e v3 ⟨g3, rfl, hg3, ht3, hb⟩; have b3' : Hid (Below v0.heap.size v0 v3) := below_then b2'.out hb; have T3 : Hid (Gps v3 (some ⟨g2, 0, none⟩) (Pg.qk s0 d0 ks) ∧ Gps v3 (some ⟨g3, 0, none⟩) (Pg.qv s1 vs)) := ⟨T2.out.keep hb, ht3⟩; clear hb hg3 ht3)
      | (go_at_call 38; refine (newP_okm m0 m1 n0 d0 h4 h5 h6 _ _ _ _ _ _ (Pg.qk s0 d0 ks) (Pg.qv s1 vs) _ (Pg.qk_length _ _ _).symm (Pg.qv_length _ _).symm T3.out.1 T3.out.2 HP.out).mono ?_; rintro e v4 ⟨p, rfl, hp, hpa, hb⟩; have b4' : Hid (Below v0.heap.size v0 v4) := below_then b3'.out hb; have PA : Hid (v3.heap.size ≤ p ∧ PageAt v4 p m0 m1 n0 d0 h4 h5 h6 (Pg.qk s0 d0 ks) (Pg.qv s1 vs)) := ⟨hp, hpa⟩; clear hb hp hpa))
  go_wp2
  go_ret2
  exact ⟨p, rfl, Nat.le_trans (below_then BW.out b3'.out).size PA.out.1, PA.out.2, below_then BW.out b4'.out⟩
end Go.Proofs.Ytgpjmbhcfjafmaa
