/- May a page be: the document's answer (layer 8). -/
import Derived.Test.YtimkfkolkplpdaaGreatPgLists
namespace Go.Proofs.YtimkfkolkplpdaaGreat
set_option linter.unusedVariables false
open Go.RowKit
attribute [local go_sem ↓] Go.wp_at_zero Go.wp_at_succ

namespace Pg
/-- The first error of the first k groups. -/
def rightsN (s : Int) (l : List (Int × Int × List Int)) : Nat → Int
  | 0 => 0
  | k + 1 => if rightsN s l k = 0 then Gp.right s (gs (nth l k)) (gc (nth l k)) else rightsN s l k
theorem rightsN_ok {s : Int} {l : List (Int × Int × List Int)} {k : Nat} (h : rightsN s l k = 0) : rightsN s l (k + 1) = Gp.right s (gs (nth l k)) (gc (nth l k)) := by simp only [rightsN]; rw [if_pos h]
theorem rightsN_bad {s : Int} {l : List (Int × Int × List Int)} {k : Nat} (h : ¬ rightsN s l k = 0) : rightsN s l (k + 1) = rightsN s l k := by simp only [rightsN]; rw [if_neg h]
theorem rightsN_stop {s : Int} {l : List (Int × Int × List Int)} {k n : Nat} (h : ¬ rightsN s l k = 0) (hn : k ≤ n) : rightsN s l n = rightsN s l k := by
  obtain ⟨d, rfl⟩ := Nat.exists_eq_add_of_le hn
  clear hn
  induction d with
  | zero => rfl
  | succ d ih => rw [← Nat.add_assoc, rightsN_bad (by rw [ih]; exact h), ih]
theorem rightsN_all {s : Int} {l : List (Int × Int × List Int)} {k : Nat} (h : rightsN s l k = 0) (i : Nat) (hi : i < k) : Gp.right s (gs (nth l i)) (gc (nth l i)) = 0 := by
  induction k with
  | zero => omega
  | succ k ih =>
    by_cases c : rightsN s l k = 0
    · by_cases e : i = k
      · subst e; rw [rightsN_ok c] at h; exact h
      · exact ih c (by omega)
    · rw [rightsN_bad c] at h; exact absurd h c
/-- The greatest code of b bits. -/
def top (b : Int) : Int := if b = 2 then 3 else if b = 4 then 15 else 255
theorem top_st {b s : Nat} (h : Gp.St b s) : top (b : Int) = s := by rcases h with ⟨rfl, rfl⟩ | ⟨rfl, rfl⟩ | ⟨rfl, rfl⟩ <;> rfl
theorem okB_st {b : Int} (h : Gp.okB b = true) : ∃ n s : Nat, b = (n : Int) ∧ Gp.St n s := by
  rcases okB_or h with rfl | rfl | rfl
  · exact ⟨2, 3, rfl, Or.inl ⟨rfl, rfl⟩⟩
  · exact ⟨4, 15, rfl, Or.inr (Or.inl ⟨rfl, rfl⟩)⟩
  · exact ⟨8, 255, rfl, Or.inr (Or.inr ⟨rfl, rfl⟩)⟩
theorem st_pow {b s : Nat} (h : Gp.St b s) : 2 ^ b - 1 = s := by rcases h with ⟨rfl, rfl⟩ | ⟨rfl, rfl⟩ | ⟨rfl, rfl⟩ <;> rfl
/-- An error's number: may a page be? -/
def newE (h : List Int) (ks vs : List (Int × Int × List Int)) : Int :=
  if rightH h = false then 11 else if shapeB ks (Ls.nth h 3) (Ls.nth h 2) = false then 25 else if shapeB vs (Ls.nth h 2) (Ls.nth h 3) = false then 25 else
  if ¬ rightsN (top (Ls.nth h 0)) ks ks.length = 0 then rightsN (top (Ls.nth h 0)) ks ks.length else rightsN (top (Ls.nth h 1)) vs vs.length
theorem shapeB_all {l : List (Int × Int × List Int)} {n each : Int} (h : shapeB l n each = true) : (∀ i, i < l.length → ((gc (nth l i)).length : Int) = each) ∧ (l.length : Int) = n := by
  unfold shapeB at h
  simp only [decide_eq_true_eq] at h
  exact h
theorem newE_zero {h : List Int} {ks vs : List (Int × Int × List Int)} (e : newE h ks vs = 0) : rightH h = true ∧ shapeB ks (Ls.nth h 3) (Ls.nth h 2) = true ∧ shapeB vs (Ls.nth h 2) (Ls.nth h 3) = true ∧
    rightsN (top (Ls.nth h 0)) ks ks.length = 0 ∧ rightsN (top (Ls.nth h 1)) vs vs.length = 0 := by
  unfold newE at e
  split at e
  · cases e
  · rename_i h1
    split at e
    · cases e
    · rename_i h2
      split at e
      · cases e
      · rename_i h3
        split at e
        · rename_i h4; exact absurd e h4
        · rename_i h4
          exact ⟨by simpa using h1, by simpa using h2, by simpa using h3, by simpa using h4, e⟩
/-- A right group fits. -/
theorem right_fits {b s n : Nat} {g : Int × Int × List Int} (hst : Gp.St b s) (hn : (gc g).length = n) (h0 : -2147483648 ≤ gz g) (h1 : gz g ≤ 2147483647) (h2 : 0 ≤ gs g) (h3 : gs g ≤ 4294967295) (hr : Gp.right s (gs g) (gc g) = 0) : Fits b n g := by
  refine ⟨hn, ?_, h0, h1, h2, h3⟩
  intro i
  have hf := Gp.fits_all (Gp.right_zero hr).2.2
  have hp := st_pow hst
  have hpos : 0 < 2 ^ b := Nat.two_pow_pos b
  by_cases hi : i < (gc g).length
  · have := hf i hi
    omega
  · rw [Ls.nth_past (by omega)]
    exact ⟨Int.le_refl _, hpos⟩
theorem newE_page {h : List Int} {ks vs : List (Int × Int × List Int)} (h7 : h.length = 7) (ik : InG ks) (iv : InG vs) (e : newE h ks vs = 0) : Page h ks vs := by
  obtain ⟨hr, sk, sv, rk, rv⟩ := newE_zero e
  obtain ⟨a, b, c, d, f, g, _⟩ := rightH_all hr
  obtain ⟨k1, k2⟩ := shapeB_all sk
  obtain ⟨v1, v2⟩ := shapeB_all sv
  have ok0 : Gp.okB (Ls.nth h 0) = true := by unfold Gp.okB; rcases a with a | a | a <;> simp [a]
  have ok1 : Gp.okB (Ls.nth h 1) = true := by unfold Gp.okB; rcases b with a | a | a <;> simp [a]
  obtain ⟨b0, s0, e0, st0⟩ := okB_st ok0
  obtain ⟨b1, s1, e1, st1⟩ := okB_st ok1
  have hb0 : kb h = b0 := by unfold kb; omega
  have hb1 : vb h = b1 := by unfold vb; omega
  have t0 : top (Ls.nth h 0) = s0 := by rw [e0]; exact top_st st0
  have t1 : top (Ls.nth h 1) = s1 := by rw [e1]; exact top_st st1
  rw [t0] at rk
  rw [t1] at rv
  refine ⟨h7, hr, by unfold dm; omega, by unfold tk; omega, fun i hi => ?_, fun i hi => ?_, fun i hi => ?_, fun i hi => ?_⟩
  · obtain ⟨q0, q1, q2, q3, _⟩ := ik i hi
    rw [hb0]
    exact right_fits st0 (by have := k1 i hi; unfold tk; omega) q0 q1 q2 q3 (rightsN_all rk i hi)
  · obtain ⟨q0, q1, q2, q3, _⟩ := iv i hi
    rw [hb1]
    exact right_fits st1 (by have := v1 i hi; unfold dm; omega) q0 q1 q2 q3 (rightsN_all rv i hi)
  · rw [hb0, st_pow st0]; exact rightsN_all rk i hi
  · rw [hb1, st_pow st1]; exact rightsN_all rv i hi
theorem newE_keys {h : List Int} {ks vs : List (Int × Int × List Int)} (hr : rightH h = true) (h1 : shapeB ks (Ls.nth h 3) (Ls.nth h 2) = true) (h2 : shapeB vs (Ls.nth h 2) (Ls.nth h 3) = true) (h3 : ¬ rightsN (top (Ls.nth h 0)) ks ks.length = 0) : newE h ks vs = rightsN (top (Ls.nth h 0)) ks ks.length := by
  unfold newE
  rw [if_neg (by rw [hr]; simp), if_neg (by rw [h1]; simp), if_neg (by rw [h2]; simp), if_pos h3]
theorem newE_vals {h : List Int} {ks vs : List (Int × Int × List Int)} (hr : rightH h = true) (h1 : shapeB ks (Ls.nth h 3) (Ls.nth h 2) = true) (h2 : shapeB vs (Ls.nth h 2) (Ls.nth h 3) = true) (h3 : rightsN (top (Ls.nth h 0)) ks ks.length = 0) : newE h ks vs = rightsN (top (Ls.nth h 1)) vs vs.length := by
  unfold newE
  rw [if_neg (by rw [hr]; simp), if_neg (by rw [h1]; simp), if_neg (by rw [h2]; simp), if_neg (by rw [h3]; simp)]
end Pg

theorem boxes_cells {w v : World} {X Y : Array Value} {s t : TypeId} (hb : Below ((w.alloc (.cells X s)).alloc (.cells Y t)).heap.size ((w.alloc (.cells X s)).alloc (.cells Y t)) v) :
    (∀ i x, X[i]? = some x → v.cell? ⟨w.heap.size, i, none⟩ = some x) ∧ (∀ i y, Y[i]? = some y → v.cell? ⟨w.heap.size + 1, i, none⟩ = some y) := by
  refine ⟨fun i x hx => ?_, fun i y hy => ?_⟩
  · rw [hb.cell (p := ⟨w.heap.size, i, none⟩) (by simp; omega), (box_below (w.alloc (.cells X s)) (.cells Y t)).cell (p := ⟨w.heap.size, i, none⟩) (by simp), cell_of_row _ _ _ _ _ _ (heap_alloc_new w _)]
    exact hx
  · have := cell_of_row _ _ i _ _ _ (heap_alloc_new (w.alloc (.cells X s)) (.cells Y t))
    rw [show (w.alloc (.cells X s)).heap.size = w.heap.size + 1 by simp] at this
    rw [hb.cell (p := ⟨w.heap.size + 1, i, none⟩) (by simp), this]
    exact hy

set_option maxRecDepth 100000 in
set_option maxHeartbeats 3200000 in
theorem refNewP_any (h0 h1 h2 h3 h4 h5 h6 : Int) (a1 a2 : Option Addr) (c1 c2 : Nat) (ks vs : List (Int × Int × List Int)) (e : Int) (w : World) (ha : Gps w a1 ks) (hb : Gps w a2 vs) (lk : ks.length ≤ 10000) (lv : vs.length ≤ 10000) (ik : InG ks) (iv : InG vs) (he : Pg.newE [h0, h1, h2, h3, h4, h5, h6] ks vs = e) :
    Calls Tryz.prog 13 #[.agg #[.int .i64 h0, .int .i64 h1, .int .i64 h2, .int .i64 h3, .int .i64 h4, .int .i64 h5, .int .i64 h6, .slice a1 ks.length c1, .slice a2 vs.length c2]] w fun r w' => r = .returned (.int .i64 e) ∧ Below w.heap.size w w' := by
  have HA : Hid (Gps w a1 ks) := ha
  have HB : Hid (Gps w a2 vs) := hb
  have IK : Hid (InG ks) := ik
  have IV : Hid (InG vs) := iv
  have HE : Hid (Pg.newE [h0, h1, h2, h3, h4, h5, h6] ks vs = e) := he
  have LK : Hid (ks.length ≤ maxLen) := by show ks.length ≤ maxLen; unfold maxLen; omega
  have LV : Hid (vs.length ≤ maxLen) := by show vs.length ≤ maxLen; unfold maxLen; omega
  obtain ⟨q, eq⟩ : ∃ q, Pg.rightH [h0, h1, h2, h3, h4, h5, h6] = q := ⟨_, rfl⟩
  have EQ : Hid (Pg.rightH [h0, h1, h2, h3, h4, h5, h6] = q) := eq
  clear ha hb ik iv he eq
  cases q
  · have ee : e = 11 := by rw [← HE.out]; unfold Pg.newE; rw [if_pos EQ.out]
    subst ee
    go_enter Tryz.func13, Tryz.ntmps13
    go_wp2_with (go_at_call 12; refine (refRightH_any _ _ _ _ _ _ _ false EQ.out _).mono ?_; rintro r v ⟨rfl, hb⟩; have B1 : Hid (Below w.heap.size w v) := below_then (two_boxes _ _ _) hb; clear hb)
    go_ret
    exact ⟨rfl, B1.out⟩
  · have RH : Hid (Pg.rightH [h0, h1, h2, h3, h4, h5, h6] = true) := EQ.out
    obtain ⟨p1, ep1⟩ : ∃ p, Pg.shapeB ks h3 h2 = p := ⟨_, rfl⟩
    obtain ⟨p2, ep2⟩ : ∃ p, Pg.shapeB vs h2 h3 = p := ⟨_, rfl⟩
    have P1 : Hid (Pg.shapeB ks h3 h2 = p1) := ep1
    have P2 : Hid (Pg.shapeB vs h2 h3 = p2) := ep2
    clear ep1 ep2
    have start : ∀ (u : World), Below ((w.alloc (.cells #[.int .i64 h0, .int .i64 h1, .int .i64 h2, .int .i64 h3, .int .i64 h4, .int .i64 h5, .int .i64 h6, .slice a1 ks.length c1, .slice a2 vs.length c2] 38)).alloc (.cells #[.int .i64 h0, .int .i64 h1, .int .i64 h2, .int .i64 h3, .int .i64 h4, .int .i64 h5, .int .i64 h6] 33)).heap.size ((w.alloc (.cells #[.int .i64 h0, .int .i64 h1, .int .i64 h2, .int .i64 h3, .int .i64 h4, .int .i64 h5, .int .i64 h6, .slice a1 ks.length c1, .slice a2 vs.length c2] 38)).alloc (.cells #[.int .i64 h0, .int .i64 h1, .int .i64 h2, .int .i64 h3, .int .i64 h4, .int .i64 h5, .int .i64 h6] 33)) u → (u.cell? ⟨w.heap.size, 7, none⟩ = some (.slice a1 ks.length c1) ∧ u.cell? ⟨w.heap.size, 8, none⟩ = some (.slice a2 vs.length c2)) ∧ (u.cell? ⟨w.heap.size + 1, 0, none⟩ = some (.int .i64 h0) ∧ u.cell? ⟨w.heap.size + 1, 1, none⟩ = some (.int .i64 h1) ∧ u.cell? ⟨w.heap.size + 1, 2, none⟩ = some (.int .i64 h2) ∧ u.cell? ⟨w.heap.size + 1, 3, none⟩ = some (.int .i64 h3)) ∧ Below w.heap.size w u := fun u hb =>
      ⟨⟨(boxes_cells hb).1 7 _ rfl, (boxes_cells hb).1 8 _ rfl⟩, ⟨(boxes_cells hb).2 0 _ rfl, (boxes_cells hb).2 1 _ rfl, (boxes_cells hb).2 2 _ rfl, (boxes_cells hb).2 3 _ rfl⟩, below_then (two_boxes _ _ _) hb⟩
    have HST : Hid (∀ (u : World), Below ((w.alloc (.cells #[.int .i64 h0, .int .i64 h1, .int .i64 h2, .int .i64 h3, .int .i64 h4, .int .i64 h5, .int .i64 h6, .slice a1 ks.length c1, .slice a2 vs.length c2] 38)).alloc (.cells #[.int .i64 h0, .int .i64 h1, .int .i64 h2, .int .i64 h3, .int .i64 h4, .int .i64 h5, .int .i64 h6] 33)).heap.size ((w.alloc (.cells #[.int .i64 h0, .int .i64 h1, .int .i64 h2, .int .i64 h3, .int .i64 h4, .int .i64 h5, .int .i64 h6, .slice a1 ks.length c1, .slice a2 vs.length c2] 38)).alloc (.cells #[.int .i64 h0, .int .i64 h1, .int .i64 h2, .int .i64 h3, .int .i64 h4, .int .i64 h5, .int .i64 h6] 33)) u → (u.cell? ⟨w.heap.size, 7, none⟩ = some (.slice a1 ks.length c1) ∧ u.cell? ⟨w.heap.size, 8, none⟩ = some (.slice a2 vs.length c2)) ∧ (u.cell? ⟨w.heap.size + 1, 0, none⟩ = some (.int .i64 h0) ∧ u.cell? ⟨w.heap.size + 1, 1, none⟩ = some (.int .i64 h1) ∧ u.cell? ⟨w.heap.size + 1, 2, none⟩ = some (.int .i64 h2) ∧ u.cell? ⟨w.heap.size + 1, 3, none⟩ = some (.int .i64 h3)) ∧ Below w.heap.size w u) := start
    clear start
    cases p1
    · have ee : e = 25 := by rw [← HE.out]; unfold Pg.newE; rw [if_neg (by rw [RH.out]; simp), if_pos (show Pg.shapeB ks (Ls.nth [h0, h1, h2, h3, h4, h5, h6] 3) (Ls.nth [h0, h1, h2, h3, h4, h5, h6] 2) = false from P1.out)]
      subst ee
      go_enter Tryz.func13, Tryz.ntmps13
      go_wp2_with fail
      refine (refRightH_any _ _ _ _ _ _ _ true EQ.out _).mono ?_
      rintro r u ⟨rfl, hb⟩
      obtain ⟨⟨x7, x8⟩, ⟨y0, y1, y2, y3⟩, hbu⟩ := HST.out u hb
      have BU : Hid (Below w.heap.size w u) := hbu
      clear hb hbu
      go_wp2_with (go_at_call 32; refine (refShapeP_any _ _ ks _ _ false _ (HA.out.keep BU.out) LK.out P1.out).mono ?_; rintro r v ⟨rfl, hw⟩; cases hw.symm; clear hw)
      go_ret
      exact ⟨rfl, BU.out⟩
    · cases p2
      · have ee : e = 25 := by rw [← HE.out]; unfold Pg.newE; rw [if_neg (by rw [RH.out]; simp), if_neg (by rw [show Pg.shapeB ks (Ls.nth [h0, h1, h2, h3, h4, h5, h6] 3) (Ls.nth [h0, h1, h2, h3, h4, h5, h6] 2) = true from P1.out]; simp), if_pos (show Pg.shapeB vs (Ls.nth [h0, h1, h2, h3, h4, h5, h6] 2) (Ls.nth [h0, h1, h2, h3, h4, h5, h6] 3) = false from P2.out)]
        subst ee
        go_enter Tryz.func13, Tryz.ntmps13
        go_wp2_with fail
        refine (refRightH_any _ _ _ _ _ _ _ true EQ.out _).mono ?_
        rintro r u ⟨rfl, hb⟩
        obtain ⟨⟨x7, x8⟩, ⟨y0, y1, y2, y3⟩, hbu⟩ := HST.out u hb
        have BU : Hid (Below w.heap.size w u) := hbu
        clear hb hbu
        go_wp2_with fail
        refine (refShapeP_any _ _ ks _ _ true _ (HA.out.keep BU.out) LK.out P1.out).mono ?_
        rintro r v ⟨rfl, hw⟩
        cases hw.symm
        clear hw
        go_wp2_with fail
        refine (refShapeP_any _ _ vs _ _ false _ (HB.out.keep BU.out) LV.out P2.out).mono ?_
        rintro r v ⟨rfl, hw⟩
        cases hw.symm
        clear hw
        go_wp2
        go_ret
        exact ⟨rfl, BU.out⟩
      · obtain ⟨qa, qb, qc, qd, qe, qf, _⟩ := Pg.rightH_all RH.out
        have qa' : h0 = 2 ∨ h0 = 4 ∨ h0 = 8 := qa
        have qb' : h1 = 2 ∨ h1 = 4 ∨ h1 = 8 := qb
        have qc' : 1 ≤ h2 := qc
        have qd' : h2 ≤ 16 := qd
        have qe' : 1 ≤ h3 := qe
        have qf' : h3 ≤ 16 := qf
        obtain ⟨m0, s0, rfl, st0⟩ := Pg.okB_st (show Gp.okB h0 = true by unfold Gp.okB; rcases qa' with rfl | rfl | rfl <;> rfl)
        obtain ⟨m1, s1, rfl, st1⟩ := Pg.okB_st (show Gp.okB h1 = true by unfold Gp.okB; rcases qb' with rfl | rfl | rfl <;> rfl)
        obtain ⟨n0, rfl⟩ := Int.eq_ofNat_of_zero_le (show 0 ≤ h2 by omega)
        obtain ⟨d0, rfl⟩ := Int.eq_ofNat_of_zero_le (show 0 ≤ h3 by omega)
        have ST0 : Hid (Gp.St m0 s0) := st0
        have ST1 : Hid (Gp.St m1 s1) := st1
        have T0 : Hid (Pg.top (Ls.nth [(m0 : Int), (m1 : Int), (n0 : Int), (d0 : Int), h4, h5, h6] 0) = (s0 : Int)) := Pg.top_st st0
        have T1 : Hid (Pg.top (Ls.nth [(m0 : Int), (m1 : Int), (n0 : Int), (d0 : Int), h4, h5, h6] 1) = (s1 : Int)) := Pg.top_st st1
        have S1 : Hid (Pg.shapeB ks (Ls.nth [(m0 : Int), (m1 : Int), (n0 : Int), (d0 : Int), h4, h5, h6] 3) (Ls.nth [(m0 : Int), (m1 : Int), (n0 : Int), (d0 : Int), h4, h5, h6] 2) = true) := P1.out
        have S2 : Hid (Pg.shapeB vs (Ls.nth [(m0 : Int), (m1 : Int), (n0 : Int), (d0 : Int), h4, h5, h6] 2) (Ls.nth [(m0 : Int), (m1 : Int), (n0 : Int), (d0 : Int), h4, h5, h6] 3) = true) := P2.out
        have SK : Hid ((∀ i, i < ks.length → ((Pg.gc (Pg.nth ks i)).length : Int) = (n0 : Int)) ∧ (ks.length : Int) = (d0 : Int)) := Pg.shapeB_all P1.out
        have SV : Hid ((∀ i, i < vs.length → ((Pg.gc (Pg.nth vs i)).length : Int) = (d0 : Int)) ∧ (vs.length : Int) = (n0 : Int)) := Pg.shapeB_all P2.out
        have bs0 := st0.bd
        have bs1 := st1.bd
        clear qa qb qc qd qe qf qa' qb' st0 st1
        go_enter Tryz.func13, Tryz.ntmps13
        go_wp2_with fail
        refine (refRightH_any _ _ _ _ _ _ _ true EQ.out _).mono ?_
        rintro r u ⟨rfl, hb⟩
        obtain ⟨⟨x7, x8⟩, ⟨y0, y1, y2, y3⟩, hbu⟩ := HST.out u hb
        have BU : Hid (Below w.heap.size w u) := hbu
        have X7 : Hid (u.cell? ⟨w.heap.size, 7, none⟩ = some (.slice a1 ks.length c1)) := x7
        have X8 : Hid (u.cell? ⟨w.heap.size, 8, none⟩ = some (.slice a2 vs.length c2)) := x8
        have Y0 : Hid (u.cell? ⟨w.heap.size + 1, 0, none⟩ = some (.int .i64 (m0 : Int))) := y0
        have Y1 : Hid (u.cell? ⟨w.heap.size + 1, 1, none⟩ = some (.int .i64 (m1 : Int))) := y1
        clear hb hbu HST
        go_wp2_with fail
        refine (refShapeP_any _ _ ks _ _ true _ (HA.out.keep BU.out) LK.out P1.out).mono ?_
        rintro r v ⟨rfl, hw⟩
        cases hw.symm
        clear hw
        go_wp2_with fail
        refine (refShapeP_any _ _ vs _ _ true _ (HB.out.keep BU.out) LV.out P2.out).mono ?_
        rintro r v ⟨rfl, hw⟩
        cases hw.symm
        clear hw
        go_wp2
        clear x7 x8 y0 y1 y2 y3
        go_loopw [4] (fun i wr => ∃ k : Nat, k ≤ ks.length ∧ i = .int .i64 k ∧ Below u.heap.size u wr ∧ Pg.rightsN (s0 : Int) ks k = 0) (fun i _ => ks.length - (intOf i).toNat)
        case atStart => exact ⟨0, Nat.zero_le _, rfl, Below.refl _ _, rfl⟩
        case round =>
          obtain ⟨k, hk, rfl, hbel, hall⟩ := hrel
          have HL : Hid (Pg.rightsN (s0 : Int) ks k = 0) := hall
          have HW : Hid (Below u.heap.size u wr) := hbel
          have z7 : wr.cell? ⟨w.heap.size, 7, none⟩ = some (.slice a1 ks.length c1) := by rw [hbel.cell (p := ⟨w.heap.size, 7, none⟩) (World.block_lt_of_cell? u _ X7.out)]; exact X7.out
          have z0 : wr.cell? ⟨w.heap.size + 1, 0, none⟩ = some (.int .i64 (m0 : Int)) := by rw [hbel.cell (p := ⟨w.heap.size + 1, 0, none⟩) (World.block_lt_of_cell? u _ Y0.out)]; exact Y0.out
          clear hall hbel
          by_cases hlt : k < ks.length
          · obtain ⟨b1, o1, rfl, hg1⟩ := HA.out.get hlt
            obtain ⟨x1, y1, G1⟩ := hg1 k hlt
            have K1 : Hid (GpAt wr b1 o1 k (Pg.nth ks k) x1 y1) := (G1.keep BU.out).keep HW.out
            have HC : Hid ((Pg.gc (Pg.nth ks k)).length = n0) := by show _ = _; have := SK.out.1 k hlt; omega
            obtain ⟨_, _, g2, g3, _⟩ := IK.out k hlt
            obtain ⟨r, er⟩ : ∃ r, Gp.right (s0 : Int) (Pg.gs (Pg.nth ks k)) (Pg.gc (Pg.nth ks k)) = r := ⟨_, rfl⟩
            have ER : Hid (Gp.right (s0 : Int) (Pg.gs (Pg.nth ks k)) (Pg.gc (Pg.nth ks k)) = r) := er
            have KS : Hid (∀ w', Below wr.heap.size wr w' → (w'.cell? ⟨b1, o1 + k * 3, none⟩ = some (.int .i32 (Pg.gz (Pg.nth ks k))) ∧ w'.cell? ⟨b1, o1 + k * 3 + 1, none⟩ = some (.int .u32 (Pg.gs (Pg.nth ks k))) ∧ w'.cell? ⟨b1, o1 + k * 3 + 2, none⟩ = some (.slice x1 (Pg.gc (Pg.nth ks k)).length y1)) ∧ w'.cell? ⟨w.heap.size, 7, none⟩ = some (.slice (some ⟨b1, o1, none⟩) ks.length c1) ∧ w'.cell? ⟨w.heap.size + 1, 0, none⟩ = some (.int .i64 (m0 : Int)) ∧ Hid (Below wr.heap.size wr w')) :=
              fun w' hb => ⟨(K1.out.keep hb).cells, by rw [hb.cell (p := ⟨w.heap.size, 7, none⟩) (World.block_lt_of_cell? wr _ z7)]; exact z7, by rw [hb.cell (p := ⟨w.heap.size + 1, 0, none⟩) (World.block_lt_of_cell? wr _ z0)]; exact z0, hb⟩
            clear hg1 G1 er z0
            have e0 : (0 : Int) ≤ (k : Int) := by omega
            have e1 : (k : Int) < (ks.length : Int) := by omega
            obtain ⟨pz, epz⟩ : ∃ p, (r != 0) = p := ⟨_, rfl⟩
            cases pz
            all_goals
              go_wp2_with fail
              clear z7
              go_region_held3 (fun w' => (w'.cell? ⟨b1, o1 + k * 3, none⟩ = some (.int .i32 (Pg.gz (Pg.nth ks k))) ∧ w'.cell? ⟨b1, o1 + k * 3 + 1, none⟩ = some (.int .u32 (Pg.gs (Pg.nth ks k))) ∧ w'.cell? ⟨b1, o1 + k * 3 + 2, none⟩ = some (.slice x1 (Pg.gc (Pg.nth ks k)).length y1)) ∧ w'.cell? ⟨w.heap.size, 7, none⟩ = some (.slice (some ⟨b1, o1, none⟩) ks.length c1) ∧ w'.cell? ⟨w.heap.size + 1, 0, none⟩ = some (.int .i64 (m0 : Int)) ∧ Hid (Below wr.heap.size wr w'))
                (first
                  | exact KS.out _ ((Below.refl wr.heap.size wr).drew)
                  | exact KS.out _ hbc.out
                  | assumption)
                (first
                  | (go_at_call 33; refine (refRightG_any _ _ _ _ m0 s0 (Pg.gc (Pg.nth ks k)) r _ (K1.out.2.2.2.keep ((Below.refl wr.heap.size wr).drew)) ST0.out (by rw [HC.out]; omega) (by rw [HC.out]; omega) g2 g3 ER.out).mono ?_; rintro e v1 ⟨rfl, hb⟩; have hbc : Hid (Below wr.heap.size wr v1) := ((Below.refl wr.heap.size wr).drew).trans hb; clear hb))
              go_wp2
            · have r0 : r = 0 := by simpa using epz
              go_roundw
              case rel =>
                refine ⟨k + 1, by omega, by go_num, below_then HW.out hbc.out, ?_⟩
                rw [Pg.rightsN_ok HL.out, ER.out, r0]
              case measure => simp [intOf]; omega
            · have r0 : ¬ r = 0 := by simpa using epz
              go_ret
              refine ⟨ret_num ?_, below_then BU.out (below_then HW.out hbc.out)⟩
              have hk1 : Pg.rightsN (s0 : Int) ks (k + 1) = r := by rw [Pg.rightsN_ok HL.out, ER.out]
              have hkn : Pg.rightsN (s0 : Int) ks ks.length = r := by rw [Pg.rightsN_stop (k := k + 1) (by rw [hk1]; exact r0) (by omega), hk1]
              rw [← HE.out, Pg.newE_keys RH.out S1.out S2.out (by rw [T0.out, hkn]; exact r0), T0.out, hkn]
          · have e : k = ks.length := by omega
            subst e
            have RK : Hid (Pg.rightsN (s0 : Int) ks ks.length = 0) := HL.out
            have HWK : Hid (Below u.heap.size u wr) := HW.out
            clear HL HW z0
            have z8 : wr.cell? ⟨w.heap.size, 8, none⟩ = some (.slice a2 vs.length c2) := by rw [HWK.out.cell (p := ⟨w.heap.size, 8, none⟩) (World.block_lt_of_cell? u _ X8.out)]; exact X8.out
            go_wp2
            clear z7 z8
            go_loopw [6] (fun i wr => ∃ k : Nat, k ≤ vs.length ∧ i = .int .i64 k ∧ Below u.heap.size u wr ∧ Pg.rightsN (s1 : Int) vs k = 0) (fun i _ => vs.length - (intOf i).toNat)
            case atStart => exact ⟨0, Nat.zero_le _, rfl, HWK.out, rfl⟩
            case round =>
              obtain ⟨k, hk, rfl, hbel, hall⟩ := hrel
              have HL : Hid (Pg.rightsN (s1 : Int) vs k = 0) := hall
              have HW : Hid (Below u.heap.size u wr) := hbel
              have z7 : wr.cell? ⟨w.heap.size, 8, none⟩ = some (.slice a2 vs.length c2) := by rw [hbel.cell (p := ⟨w.heap.size, 8, none⟩) (World.block_lt_of_cell? u _ X8.out)]; exact X8.out
              have z0 : wr.cell? ⟨w.heap.size + 1, 1, none⟩ = some (.int .i64 (m1 : Int)) := by rw [hbel.cell (p := ⟨w.heap.size + 1, 1, none⟩) (World.block_lt_of_cell? u _ Y1.out)]; exact Y1.out
              clear hall hbel
              by_cases hlt : k < vs.length
              · obtain ⟨b1, o1, rfl, hg1⟩ := HB.out.get hlt
                obtain ⟨x1, y1, G1⟩ := hg1 k hlt
                have K1 : Hid (GpAt wr b1 o1 k (Pg.nth vs k) x1 y1) := (G1.keep BU.out).keep HW.out
                have HC : Hid ((Pg.gc (Pg.nth vs k)).length = d0) := by show _ = _; have := SV.out.1 k hlt; omega
                obtain ⟨_, _, g2, g3, _⟩ := IV.out k hlt
                obtain ⟨r, er⟩ : ∃ r, Gp.right (s1 : Int) (Pg.gs (Pg.nth vs k)) (Pg.gc (Pg.nth vs k)) = r := ⟨_, rfl⟩
                have ER : Hid (Gp.right (s1 : Int) (Pg.gs (Pg.nth vs k)) (Pg.gc (Pg.nth vs k)) = r) := er
                have KS : Hid (∀ w', Below wr.heap.size wr w' → (w'.cell? ⟨b1, o1 + k * 3, none⟩ = some (.int .i32 (Pg.gz (Pg.nth vs k))) ∧ w'.cell? ⟨b1, o1 + k * 3 + 1, none⟩ = some (.int .u32 (Pg.gs (Pg.nth vs k))) ∧ w'.cell? ⟨b1, o1 + k * 3 + 2, none⟩ = some (.slice x1 (Pg.gc (Pg.nth vs k)).length y1)) ∧ w'.cell? ⟨w.heap.size, 8, none⟩ = some (.slice (some ⟨b1, o1, none⟩) vs.length c2) ∧ w'.cell? ⟨w.heap.size + 1, 1, none⟩ = some (.int .i64 (m1 : Int)) ∧ Hid (Below wr.heap.size wr w')) :=
                  fun w' hb => ⟨(K1.out.keep hb).cells, by rw [hb.cell (p := ⟨w.heap.size, 8, none⟩) (World.block_lt_of_cell? wr _ z7)]; exact z7, by rw [hb.cell (p := ⟨w.heap.size + 1, 1, none⟩) (World.block_lt_of_cell? wr _ z0)]; exact z0, hb⟩
                clear hg1 G1 er z0
                have e0 : (0 : Int) ≤ (k : Int) := by omega
                have e1 : (k : Int) < (vs.length : Int) := by omega
                obtain ⟨pz, epz⟩ : ∃ p, (r != 0) = p := ⟨_, rfl⟩
                cases pz
                all_goals
                  go_wp2_with fail
                  clear z7
                  go_region_held3 (fun w' => (w'.cell? ⟨b1, o1 + k * 3, none⟩ = some (.int .i32 (Pg.gz (Pg.nth vs k))) ∧ w'.cell? ⟨b1, o1 + k * 3 + 1, none⟩ = some (.int .u32 (Pg.gs (Pg.nth vs k))) ∧ w'.cell? ⟨b1, o1 + k * 3 + 2, none⟩ = some (.slice x1 (Pg.gc (Pg.nth vs k)).length y1)) ∧ w'.cell? ⟨w.heap.size, 8, none⟩ = some (.slice (some ⟨b1, o1, none⟩) vs.length c2) ∧ w'.cell? ⟨w.heap.size + 1, 1, none⟩ = some (.int .i64 (m1 : Int)) ∧ Hid (Below wr.heap.size wr w'))
                    (first
                      | exact KS.out _ ((Below.refl wr.heap.size wr).drew)
                      | exact KS.out _ hbc.out
                      | assumption)
                    (first
                      | (go_at_call 33; refine (refRightG_any _ _ _ _ m1 s1 (Pg.gc (Pg.nth vs k)) r _ (K1.out.2.2.2.keep ((Below.refl wr.heap.size wr).drew)) ST1.out (by rw [HC.out]; omega) (by rw [HC.out]; omega) g2 g3 ER.out).mono ?_; rintro e v1 ⟨rfl, hb⟩; have hbc : Hid (Below wr.heap.size wr v1) := ((Below.refl wr.heap.size wr).drew).trans hb; clear hb))
                  go_wp2
                · have r0 : r = 0 := by simpa using epz
                  go_roundw
                  case rel =>
                    refine ⟨k + 1, by omega, by go_num, below_then HW.out hbc.out, ?_⟩
                    rw [Pg.rightsN_ok HL.out, ER.out, r0]
                  case measure => simp [intOf]; omega
                · have r0 : ¬ r = 0 := by simpa using epz
                  go_ret
                  refine ⟨ret_num ?_, below_then BU.out (below_then HW.out hbc.out)⟩
                  have hk1 : Pg.rightsN (s1 : Int) vs (k + 1) = r := by rw [Pg.rightsN_ok HL.out, ER.out]
                  have hkn : Pg.rightsN (s1 : Int) vs vs.length = r := by rw [Pg.rightsN_stop (k := k + 1) (by rw [hk1]; exact r0) (by omega), hk1]
                  rw [← HE.out, Pg.newE_vals RH.out S1.out S2.out (by rw [T0.out]; exact RK.out), T1.out, hkn]
              · have e : k = vs.length := by omega
                subst e
                go_wp2
                go_ret
                refine ⟨ret_num ?_, below_then BU.out HW.out⟩
                rw [← HE.out, Pg.newE_vals RH.out S1.out S2.out (by rw [T0.out]; exact RK.out), T1.out, HL.out]
end Go.Proofs.YtimkfkolkplpdaaGreat
