/- Layer 13: PaRead, PaTokens. -/
import Derived.Test.YtnchnlgnnlgjcaaGreatCn09
namespace Go.Proofs.YtnchnlgnnlgjcaaGreat
set_option linter.unusedVariables false
open Go.RowKit
attribute [local go_sem ↓] Go.wp_at_zero Go.wp_at_succ
/-- The nine cells of a page. -/
theorem PageAt.cells {w : World} {p m0 m1 n0 d0 : Nat} {h4 h5 h6 : Int} {ks vs : List (Int × Int × List Int)} (h : PageAt w p m0 m1 n0 d0 h4 h5 h6 ks vs) : ∃ g1 g2, HdAt w p m0 m1 n0 d0 h4 h5 h6 ∧ w.cell? ⟨p, 7, none⟩ = some (.slice (some ⟨g1, 0, none⟩) d0 d0) ∧ w.cell? ⟨p, 8, none⟩ = some (.slice (some ⟨g2, 0, none⟩) n0 n0) ∧ Pks w g1 m0 ks ∧ Pks w g2 m1 vs := by
  obtain ⟨g1, g2, hr, hk, hv, _⟩ := h
  exact ⟨g1, g2, ⟨hr.cell (i := 0) (by decide), hr.cell (i := 1) (by decide), hr.cell (i := 2) (by decide), hr.cell (i := 3) (by decide), hr.cell (i := 4) (by decide), hr.cell (i := 5) (by decide), hr.cell (i := 6) (by decide)⟩, hr.cell (i := 7) (by decide), hr.cell (i := 8) (by decide), hk, hv⟩
theorem PageAt.page {w : World} {p m0 m1 n0 d0 : Nat} {h4 h5 h6 : Int} {ks vs : List (Int × Int × List Int)} (h : PageAt w p m0 m1 n0 d0 h4 h5 h6 ks vs) : Pg.Page [(m0 : Int), m1, n0, d0, h4, h5, h6] ks vs := by
  obtain ⟨g1, g2, _, _, _, hp⟩ := h
  exact hp
/-- A page's own numbers. -/
theorem Pg.page_nums {m0 m1 n0 d0 : Nat} {h4 h5 h6 : Int} {ks vs : List (Int × Int × List Int)} (h : Pg.Page [(m0 : Int), m1, n0, d0, h4, h5, h6] ks vs) : Pk.Ok m0 ∧ Pk.Ok m1 ∧ 1 ≤ n0 ∧ n0 ≤ 16 ∧ 1 ≤ d0 ∧ d0 ≤ 16 ∧ ks.length = d0 ∧ vs.length = n0 ∧ Pg.AllFit m0 n0 ks ∧ Pg.AllFit m1 d0 vs := by
  obtain ⟨_, hr, lk, lv, fk, fv, _⟩ := h
  obtain ⟨a, b, c, d, e, f, _⟩ := Pg.rightH_all hr
  have a' : (m0 : Int) = 2 ∨ (m0 : Int) = 4 ∨ (m0 : Int) = 8 := a
  have b' : (m1 : Int) = 2 ∨ (m1 : Int) = 4 ∨ (m1 : Int) = 8 := b
  have c' : (1 : Int) ≤ n0 := c
  have d' : (n0 : Int) ≤ 16 := d
  have e' : (1 : Int) ≤ d0 := e
  have f' : (d0 : Int) ≤ 16 := f
  have x0 : m0 = 2 ∨ m0 = 4 ∨ m0 = 8 := by omega
  have x1 : m1 = 2 ∨ m1 = 4 ∨ m1 = 8 := by omega
  exact ⟨x0, x1, by omega, by omega, by omega, by omega, lk, lv, fk, fv⟩
theorem hasP_any (p m0 m1 n0 d0 : Nat) (h4 h5 h6 : Int) (ks vs : List (Int × Int × List Int)) (t i : Int) (q : Bool) (w : World) (h : PageAt w p m0 m1 n0 d0 h4 h5 h6 ks vs) (hq : ((decide (0 ≤ t) && decide (t ≤ (n0 : Int) - 1)) && (decide (0 ≤ i) && decide (i ≤ (d0 : Int) - 1))) = q) :
    Calls Tryz.prog 127 #[.pointer (some ⟨p, 0, none⟩), .int .i64 t, .int .i64 i] w fun e w' => e = .returned (.bool q) ∧ w' = w := by
  obtain ⟨k0, k1, b1, b2, b3, b4, _⟩ := Pg.page_nums h.page
  obtain ⟨g1, g2, ⟨x0, x1, x2, x3, x4, x5, x6⟩, _⟩ := h.cells
  obtain ⟨p1, e1⟩ : ∃ p, (decide (0 ≤ t) && decide (t ≤ (n0 : Int) - 1)) = p := ⟨_, rfl⟩
  obtain ⟨p2, e2⟩ : ∃ p, (decide (0 ≤ i) && decide (i ≤ (d0 : Int) - 1)) = p := ⟨_, rfl⟩
  rw [e1, e2] at hq
  have E1 : Hid ((decide (0 ≤ t) && decide (t ≤ (n0 : Int) - 1)) = p1) := e1
  have E2 : Hid ((decide (0 ≤ i) && decide (i ≤ (d0 : Int) - 1)) = p2) := e2
  have HQ : Hid ((p1 && p2) = q) := hq
  clear h k0 k1 x0 x1 x4 x5 x6 e1 e2 hq
  cases p1
  all_goals
    go_enter Tryz.func127, Tryz.ntmps127
    go_wp2_with (go_at_call 138; (first | (with_reducible refine (within_any t 0 _ _ E1.out _).mono ?_) | (with_reducible refine (within_any i 0 _ _ E2.out _).mono ?_)); rintro r w' ⟨rfl, hw⟩; cases hw.symm; clear hw)
    go_ret
    exact ⟨ret_bool (by rw [← HQ.out]; simp), rfl⟩
theorem lane_okm (a : Option Addr) (m c i b : Nat) (cd : List Int) (w : World) (hm : m = Pk.size b cd.length) (h : Pk.Ok b) (hi : i < cd.length) (hl : cd.length ≤ 256) (ha : Lst .u64 w a (Pk.pack b cd)) (hc : Pk.Cds b cd) :
    Calls Tryz.prog 144 #[.slice a m c, .int .i64 i, .int .i64 b] w fun e w' => e = .returned (.int .i64 (Ls.nth cd i)) ∧ Below w.heap.size w w' := by
  obtain rfl : m = (Pk.pack b cd).length := by rw [Pk.pack_length, hm]
  refine (lane_ok a c i b (Pk.pack b cd) h (by omega) (by rw [Pk.pack_length]; exact Pk.word_size h hi) w ha (Pk.pack_wds h hc)).mono ?_
  rintro e w' ⟨rfl, n, rfl⟩
  exact ⟨by rw [Pk.lane_pack h hc hi], below_drewN (Below.refl _ _) n⟩
theorem Pg.code_bd {b : Nat} {cd : List Int} (h : Pk.Ok b) (hc : Pk.Cds b cd) (i : Nat) : 0 ≤ Ls.nth cd i ∧ Ls.nth cd i ≤ 255 := by
  have := hc i
  have h8 : 2 ^ b ≤ 256 := by rcases h with rfl | rfl | rfl <;> decide
  omega
set_option maxHeartbeats 800000 in
theorem meant_any (z sc : Int) (a : Option Addr) (m c i b : Nat) (cd : List Int) (w : World) (hm : m = Pk.size b cd.length) (h : Pk.Ok b) (hi : i < cd.length) (hl : cd.length ≤ 256) (ha : Lst .u64 w a (Pk.pack b cd)) (hc : Pk.Cds b cd) (hz1 : -2147483648 ≤ z) (hz2 : z ≤ 2147483647) (hs1 : 0 ≤ sc) (hs2 : sc ≤ 4294967295) :
    Calls Tryz.prog 128 #[.agg #[.int .i32 z, .int .u32 sc, .slice none 0 0, .slice a m c], .int .i64 i, .int .i64 b] w fun e w' => e = .returned (.int .i32 (Gp.mean z sc (Ls.nth cd i))) ∧ Below w.heap.size w w' := by
  have HA : Hid (Lst .u64 w a (Pk.pack b cd)) := ha
  have HM : Hid (m = Pk.size b cd.length) := hm
  have HO : Hid (Pk.Ok b) := h
  have HC : Hid (Pk.Cds b cd) := hc
  have cb := Pg.code_bd h hc i
  clear ha hm h hc
  go_enter Tryz.func128, Tryz.ntmps128
  go_wp2
  obtain ⟨u, hu⟩ : ∃ u, w.alloc (.cells #[.int .i32 z, .int .u32 sc, .slice none 0 0, .slice a m c] 180) = u := ⟨_, rfl⟩
  have BU : Hid (Below w.heap.size w u) := by rw [← hu]; exact box_below _ _
  have KS : Hid (∀ w', Below u.heap.size u w' → w'.cell? ⟨w.heap.size, 0, none⟩ = some (.int .i32 z) ∧ w'.cell? ⟨w.heap.size, 1, none⟩ = some (.int .u32 sc) ∧ w'.cell? ⟨w.heap.size, 2, none⟩ = some (.slice none 0 0) ∧ w'.cell? ⟨w.heap.size, 3, none⟩ = some (.slice a m c) ∧ Hid (Below u.heap.size u w')) := by
    rw [← hu]
    exact fun w' hb => ⟨box_cells hb 0 _ rfl, box_cells hb 1 _ rfl, box_cells hb 2 _ rfl, box_cells hb 3 _ rfl, hb⟩
  rw [hu]
  clear hu
  go_region_held3 (fun w' => w'.cell? ⟨w.heap.size, 0, none⟩ = some (.int .i32 z) ∧ w'.cell? ⟨w.heap.size, 1, none⟩ = some (.int .u32 sc) ∧ w'.cell? ⟨w.heap.size, 2, none⟩ = some (.slice none 0 0) ∧ w'.cell? ⟨w.heap.size, 3, none⟩ = some (.slice a m c) ∧ Hid (Below u.heap.size u w'))
    (first
      | exact KS.out _ ((Below.refl u.heap.size u).drew)
      | exact KS.out _ hbd.out
      | exact KS.out _ hbc.out
      | assumption)
    (first
      | (go_at_call 144; refine (lane_okm _ m _ i b cd _ HM.out HO.out hi hl (HA.out.keep (below_then BU.out ((Below.refl u.heap.size u).drew))) HC.out).mono ?_; rintro e v1 ⟨rfl, hb⟩; have hbc : Hid (Below u.heap.size u v1) := ((Below.refl u.heap.size u).drew).trans hb; clear hb)
      | (go_at_call 143; refine (one_any _ _ _ _ _ _ hz1 hz2 hs1 hs2 cb.1 cb.2 _).mono ?_; rintro e v2 ⟨rfl, hb⟩; have hbd : Hid (Below u.heap.size u v2) := below_then hbc.out hb; clear hb))
  go_wp2
  go_ret
  exact ⟨rfl, below_then BU.out hbd.out⟩
/-- What a page means by a key, by a value, at a place. -/
def Pg.keyAt (ks : List (Int × Int × List Int)) (t i : Nat) : Int := Gp.mean (Pg.gz (Pg.nth ks i)) (Pg.gs (Pg.nth ks i)) (Ls.nth (Pg.gc (Pg.nth ks i)) t)
def Pg.valAt (vs : List (Int × Int × List Int)) (t i : Nat) : Int := Gp.mean (Pg.gz (Pg.nth vs t)) (Pg.gs (Pg.nth vs t)) (Ls.nth (Pg.gc (Pg.nth vs t)) i)
set_option maxHeartbeats 800000 in
theorem keyP_any (p m0 m1 n0 d0 : Nat) (h4 h5 h6 : Int) (ks vs : List (Int × Int × List Int)) (t i : Nat) (x : Int) (w : World) (h : PageAt w p m0 m1 n0 d0 h4 h5 h6 ks vs) (ht : t < n0) (hi : i < d0) (hx : Pg.keyAt ks t i = x) :
    Calls Tryz.prog 101 #[.pointer (some ⟨p, 0, none⟩), .int .i64 t, .int .i64 i] w fun e w' => e = .returned (.int .i32 x) ∧ Below w.heap.size w w' := by
  obtain ⟨k0, k1, b1, b2, b3, b4, lk, lv, fk, fv⟩ := Pg.page_nums h.page
  obtain ⟨g1, g2, ⟨x0, x1, x2, x3, _, _, _⟩, x7, x8, hk, hv⟩ := h.cells
  have H : Hid (PageAt w p m0 m1 n0 d0 h4 h5 h6 ks vs) := h
  have HX : Hid (Pg.keyAt ks t i = x) := hx
  have HQ : Hid (((decide (0 ≤ (t : Int)) && decide ((t : Int) ≤ (n0 : Int) - 1)) && (decide (0 ≤ (i : Int)) && decide ((i : Int) ≤ (d0 : Int) - 1))) = true) := by
    show _ = _
    simp only [Bool.and_eq_true, decide_eq_true_eq]
    omega
  obtain ⟨a', c', y0, y1, y2, y3, y4⟩ := hk i (by omega)
  have F1 := fk i (by omega)
  obtain ⟨f1, f2, f3, f4, f5, f6⟩ := F1
  have KO : Hid (Pk.Ok m0) := k0
  have HL : Hid (Lst .u64 w a' (Pk.pack m0 (Pg.gc (Pg.nth ks i)))) := y4
  have FL : Hid ((Pg.gc (Pg.nth ks i)).length = n0) := f1
  have FC : Hid (Pk.Cds m0 (Pg.gc (Pg.nth ks i))) := f2
  obtain ⟨N, eN⟩ : ∃ N, Pk.size m0 (Pg.gc (Pg.nth ks i)).length = N := ⟨_, rfl⟩
  have EN : Hid (N = Pk.size m0 (Pg.gc (Pg.nth ks i)).length) := eN.symm
  rw [eN] at y3
  have e0 : (0 : Int) ≤ (i : Int) := by omega
  have e1 : (i : Int) < (d0 : Int) := by omega
  have KS : Hid (∀ w', Below w.heap.size w w' → w'.cell? ⟨p, 0, none⟩ = some (.int .i64 (m0 : Int)) ∧ w'.cell? ⟨p, 7, none⟩ = some (.slice (some ⟨g1, 0, none⟩) d0 d0) ∧ (w'.cell? ⟨g1, i * 4, none⟩ = some (.int .i32 (Pg.gz (Pg.nth ks i))) ∧ w'.cell? ⟨g1, i * 4 + 1, none⟩ = some (.int .u32 (Pg.gs (Pg.nth ks i))) ∧ w'.cell? ⟨g1, i * 4 + 2, none⟩ = some (.slice none 0 0) ∧ w'.cell? ⟨g1, i * 4 + 3, none⟩ = some (.slice a' N c')) ∧ Hid (Below w.heap.size w w')) := fun w' hb =>
    ⟨by rw [hb.cell (p := ⟨p, 0, none⟩) (World.block_lt_of_cell? w _ x0)]; exact x0, by rw [hb.cell (p := ⟨p, 7, none⟩) (World.block_lt_of_cell? w _ x7)]; exact x7, ⟨by rw [hb.cell (p := ⟨g1, i * 4, none⟩) (World.block_lt_of_cell? w _ y0)]; exact y0, by rw [hb.cell (p := ⟨g1, i * 4 + 1, none⟩) (World.block_lt_of_cell? w _ y1)]; exact y1, by rw [hb.cell (p := ⟨g1, i * 4 + 2, none⟩) (World.block_lt_of_cell? w _ y2)]; exact y2, by rw [hb.cell (p := ⟨g1, i * 4 + 3, none⟩) (World.block_lt_of_cell? w _ y3)]; exact y3⟩, hb⟩
  clear h hx k0 k1 lk lv fk fv x0 x1 x2 x3 x7 x8 hk hv y0 y1 y2 y3 y4 f1 f2 eN
  go_enter Tryz.func101, Tryz.ntmps101
  go_wp2_with (go_at_call 127; refine (hasP_any p m0 m1 n0 d0 h4 h5 h6 ks vs t i true _ H.out HQ.out).mono ?_; rintro r w' ⟨rfl, hw⟩; cases hw.symm; clear hw)
  go_region_held3 (fun w' => w'.cell? ⟨p, 0, none⟩ = some (.int .i64 (m0 : Int)) ∧ w'.cell? ⟨p, 7, none⟩ = some (.slice (some ⟨g1, 0, none⟩) d0 d0) ∧ (w'.cell? ⟨g1, i * 4, none⟩ = some (.int .i32 (Pg.gz (Pg.nth ks i))) ∧ w'.cell? ⟨g1, i * 4 + 1, none⟩ = some (.int .u32 (Pg.gs (Pg.nth ks i))) ∧ w'.cell? ⟨g1, i * 4 + 2, none⟩ = some (.slice none 0 0) ∧ w'.cell? ⟨g1, i * 4 + 3, none⟩ = some (.slice a' N c')) ∧ Hid (Below w.heap.size w w'))
    (first
      | exact KS.out _ ((Below.refl w.heap.size w).drew)
      | exact KS.out _ hbc.out
      | assumption)
    (first
      | (go_at_call 128; refine (meant_any _ _ _ N _ t m0 (Pg.gc (Pg.nth ks i)) _ EN.out KO.out (by rw [FL.out]; omega) (by rw [FL.out]; omega) (HL.out.keep ((Below.refl w.heap.size w).drew)) FC.out f3 f4 f5 f6).mono ?_; rintro e v ⟨rfl, hb⟩; have hbc : Hid (Below w.heap.size w v) := ((Below.refl w.heap.size w).drew).trans hb; clear hb))
  go_wp2
  go_ret
  exact ⟨ret_num HX.out, hbc.out⟩
set_option maxHeartbeats 800000 in
theorem valueP_any (p m0 m1 n0 d0 : Nat) (h4 h5 h6 : Int) (ks vs : List (Int × Int × List Int)) (t i : Nat) (x : Int) (w : World) (h : PageAt w p m0 m1 n0 d0 h4 h5 h6 ks vs) (ht : t < n0) (hi : i < d0) (hx : Pg.valAt vs t i = x) :
    Calls Tryz.prog 102 #[.pointer (some ⟨p, 0, none⟩), .int .i64 t, .int .i64 i] w fun e w' => e = .returned (.int .i32 x) ∧ Below w.heap.size w w' := by
  obtain ⟨k0, k1, b1, b2, b3, b4, lk, lv, fk, fv⟩ := Pg.page_nums h.page
  obtain ⟨g1, g2, ⟨x0, x1, x2, x3, _, _, _⟩, x7, x8, hk, hv⟩ := h.cells
  have H : Hid (PageAt w p m0 m1 n0 d0 h4 h5 h6 ks vs) := h
  have HX : Hid (Pg.valAt vs t i = x) := hx
  have HQ : Hid (((decide (0 ≤ (t : Int)) && decide ((t : Int) ≤ (n0 : Int) - 1)) && (decide (0 ≤ (i : Int)) && decide ((i : Int) ≤ (d0 : Int) - 1))) = true) := by
    show _ = _
    simp only [Bool.and_eq_true, decide_eq_true_eq]
    omega
  obtain ⟨a', c', y0, y1, y2, y3, y4⟩ := hv t (by omega)
  have F1 := fv t (by omega)
  obtain ⟨f1, f2, f3, f4, f5, f6⟩ := F1
  have KO : Hid (Pk.Ok m1) := k1
  have HL : Hid (Lst .u64 w a' (Pk.pack m1 (Pg.gc (Pg.nth vs t)))) := y4
  have FL : Hid ((Pg.gc (Pg.nth vs t)).length = d0) := f1
  have FC : Hid (Pk.Cds m1 (Pg.gc (Pg.nth vs t))) := f2
  obtain ⟨N, eN⟩ : ∃ N, Pk.size m1 (Pg.gc (Pg.nth vs t)).length = N := ⟨_, rfl⟩
  have EN : Hid (N = Pk.size m1 (Pg.gc (Pg.nth vs t)).length) := eN.symm
  rw [eN] at y3
  have e0 : (0 : Int) ≤ (t : Int) := by omega
  have e1 : (t : Int) < (n0 : Int) := by omega
  have KS : Hid (∀ w', Below w.heap.size w w' → w'.cell? ⟨p, 1, none⟩ = some (.int .i64 (m1 : Int)) ∧ w'.cell? ⟨p, 8, none⟩ = some (.slice (some ⟨g2, 0, none⟩) n0 n0) ∧ (w'.cell? ⟨g2, t * 4, none⟩ = some (.int .i32 (Pg.gz (Pg.nth vs t))) ∧ w'.cell? ⟨g2, t * 4 + 1, none⟩ = some (.int .u32 (Pg.gs (Pg.nth vs t))) ∧ w'.cell? ⟨g2, t * 4 + 2, none⟩ = some (.slice none 0 0) ∧ w'.cell? ⟨g2, t * 4 + 3, none⟩ = some (.slice a' N c')) ∧ Hid (Below w.heap.size w w')) := fun w' hb =>
    ⟨by rw [hb.cell (p := ⟨p, 1, none⟩) (World.block_lt_of_cell? w _ x1)]; exact x1, by rw [hb.cell (p := ⟨p, 8, none⟩) (World.block_lt_of_cell? w _ x8)]; exact x8, ⟨by rw [hb.cell (p := ⟨g2, t * 4, none⟩) (World.block_lt_of_cell? w _ y0)]; exact y0, by rw [hb.cell (p := ⟨g2, t * 4 + 1, none⟩) (World.block_lt_of_cell? w _ y1)]; exact y1, by rw [hb.cell (p := ⟨g2, t * 4 + 2, none⟩) (World.block_lt_of_cell? w _ y2)]; exact y2, by rw [hb.cell (p := ⟨g2, t * 4 + 3, none⟩) (World.block_lt_of_cell? w _ y3)]; exact y3⟩, hb⟩
  clear h hx k0 k1 lk lv fk fv x0 x1 x2 x3 x7 x8 hk hv y0 y1 y2 y3 y4 f1 f2 eN
  go_enter Tryz.func102, Tryz.ntmps102
  go_wp2_with (go_at_call 127; refine (hasP_any p m0 m1 n0 d0 h4 h5 h6 ks vs t i true _ H.out HQ.out).mono ?_; rintro r w' ⟨rfl, hw⟩; cases hw.symm; clear hw)
  go_region_held3 (fun w' => w'.cell? ⟨p, 1, none⟩ = some (.int .i64 (m1 : Int)) ∧ w'.cell? ⟨p, 8, none⟩ = some (.slice (some ⟨g2, 0, none⟩) n0 n0) ∧ (w'.cell? ⟨g2, t * 4, none⟩ = some (.int .i32 (Pg.gz (Pg.nth vs t))) ∧ w'.cell? ⟨g2, t * 4 + 1, none⟩ = some (.int .u32 (Pg.gs (Pg.nth vs t))) ∧ w'.cell? ⟨g2, t * 4 + 2, none⟩ = some (.slice none 0 0) ∧ w'.cell? ⟨g2, t * 4 + 3, none⟩ = some (.slice a' N c')) ∧ Hid (Below w.heap.size w w'))
    (first
      | exact KS.out _ ((Below.refl w.heap.size w).drew)
      | exact KS.out _ hbc.out
      | assumption)
    (first
      | (go_at_call 128; refine (meant_any _ _ _ N _ i m1 (Pg.gc (Pg.nth vs t)) _ EN.out KO.out (by rw [FL.out]; omega) (by rw [FL.out]; omega) (HL.out.keep ((Below.refl w.heap.size w).drew)) FC.out f3 f4 f5 f6).mono ?_; rintro e v ⟨rfl, hb⟩; have hbc : Hid (Below w.heap.size w v) := ((Below.refl w.heap.size w).drew).trans hb; clear hb))
  go_wp2
  go_ret
  exact ⟨ret_num HX.out, hbc.out⟩
end Go.Proofs.YtnchnlgnnlgjcaaGreat
namespace Go.Proofs.YtnchnlgnnlgjcaaGreat
set_option linter.unusedVariables false
open Go.RowKit
attribute [local go_sem ↓] Go.wp_at_zero Go.wp_at_succ
/-- A table by places. -/
def Pg.tab (n d : Nat) (F : Nat → Nat → Int) : List (List Int) := (List.range n).map fun t => Ls.gen d (F t)
theorem Pg.tab_length (n d : Nat) (F : Nat → Nat → Int) : (Pg.tab n d F).length = n := by simp [Pg.tab]
theorem Pg.row_tab {n d t : Nat} {F : Nat → Nat → Int} (h : t < n) : Tb.row (Pg.tab n d F) t = Ls.gen d (F t) := Tb.row_map_range _ h
set_option maxRecDepth 100000 in
set_option maxHeartbeats 1600000 in
theorem tokensKey_any (p m0 m1 n0 d0 : Nat) (h4 h5 h6 : Int) (ks vs : List (Int × Int × List Int)) (w : World) (h : PageAt w p m0 m1 n0 d0 h4 h5 h6 ks vs) :
    Calls Tryz.prog 100 #[.pointer (some ⟨p, 0, none⟩), .func (.func 101) #[.pointer (some ⟨p, 0, none⟩)] #[]] w fun e w' => ∃ g B, e = .returned (.slice (some ⟨g, 0, none⟩) n0 n0) ∧ w.heap.size ≤ g ∧ TRow w' g 74 n0 (Pg.tab n0 d0 (Pg.keyAt ks)) n0 B ∧ Below w.heap.size w w' := by
  obtain ⟨k0, k1, b1, b2, b3, b4, _⟩ := Pg.page_nums h.page
  obtain ⟨g1, g2, ⟨_, _, x2, x3, _, _, _⟩, _⟩ := h.cells
  have H : Hid (PageAt w p m0 m1 n0 d0 h4 h5 h6 ks vs) := h
  have hpl := h.lt
  have hmk := run_make_row' (P := Tryz.prog) 42 74 (.slice none 0 0) 24 Tryz.underlying42 Tryz.infoRow32 rfl .i64 .i64 n0 (by omega) (by omega)
  have hmr := run_make_row' (P := Tryz.prog) 74 21 (.int .i32 0) 4 Tryz.underlying74 Tryz.infoInt32 rfl .i64 .i64 d0 (by omega) (by omega)
  clear h k0 k1 x3
  go_enter Tryz.func100, Tryz.ntmps100
  go_wp2
  clear hmk x2
  go_loopw [16] (fun i wr => ∃ k : Nat, k ≤ n0 ∧ i = .int .i64 k ∧ TRow wr w.heap.size 74 n0 (Pg.tab n0 d0 (Pg.keyAt ks)) k wr.heap.size ∧ Below w.heap.size w wr) (fun i _ => n0 - (intOf i).toNat)
  case atStart => exact ⟨0, Nat.zero_le _, rfl, ⟨_, World.rowIs_made w (.slice none 0 0) n0 74, fun i hi => by omega⟩, (Below.refl _ _).alloc (Nat.le_refl _) _⟩
  case round =>
    obtain ⟨k, hk, rfl, hrow, hbel⟩ := hrel
    by_cases hlt : k < n0
    · obtain ⟨S, eS⟩ : ∃ S, wr.heap.size = S := ⟨_, rfl⟩
      have hgS : w.heap.size < S := by rw [← eS]; exact hrow.lt
      obtain ⟨f, hr⟩ := hrow.room
      have r0 := hr.cell hlt
      have s0 := hr.frozen k
      rw [eS] at hrow
      have hmr2 := hmr wr
      rw [eS] at hmr2
      obtain ⟨_, _, ⟨_, _, _, x3, _, _, _⟩, _⟩ := (H.out.keep hbel).cells
      obtain ⟨T1, C1⟩ := hrow.top hlt (.slice (some ⟨S, 0, none⟩) d0 d0)
      have eS2 : (wr.setCell ⟨w.heap.size, k, none⟩ (.slice (some ⟨S, 0, none⟩) d0 d0)).heap.size = S := by rw [← eS]; simp [World.setCell]
      have C2 : ((wr.setCell ⟨w.heap.size, k, none⟩ (.slice (some ⟨S, 0, none⟩) d0 d0)).alloc (.cells (madeCells #[.int .i32 0] d0) 21)).cell? ⟨w.heap.size, k, none⟩ = some (.slice (some ⟨S, 0, none⟩) d0 d0) := by
        rw [(box_below _ _).cell (p := ⟨w.heap.size, k, none⟩) (by rw [eS2]; exact hgS)]
        exact C1
      have R1 : ((wr.setCell ⟨w.heap.size, k, none⟩ (.slice (some ⟨S, 0, none⟩) d0 d0)).alloc (.cells (madeCells #[.int .i32 0] d0) 21)).rowIs S 21 d0 (fun _ => .int .i32 0) := by
        have := World.rowIs_made (wr.setCell ⟨w.heap.size, k, none⟩ (.slice (some ⟨S, 0, none⟩) d0 d0)) (.int .i32 0) d0 21
        rw [eS2] at this
        exact this
      have B1 : Below w.heap.size w ((wr.setCell ⟨w.heap.size, k, none⟩ (.slice (some ⟨S, 0, none⟩) d0 d0)).alloc (.cells (madeCells #[.int .i32 0] d0) 21)) := (hbel.setCell (by simp) _).alloc (by rw [eS2]; omega) _
      have ALL : Hid (TRow ((wr.setCell ⟨w.heap.size, k, none⟩ (.slice (some ⟨S, 0, none⟩) d0 d0)).alloc (.cells (madeCells #[.int .i32 0] d0) 21)) w.heap.size 74 n0 (Pg.tab n0 d0 (Pg.keyAt ks)) k S ∧ ((wr.setCell ⟨w.heap.size, k, none⟩ (.slice (some ⟨S, 0, none⟩) d0 d0)).alloc (.cells (madeCells #[.int .i32 0] d0) 21)).cell? ⟨w.heap.size, k, none⟩ = some (.slice (some ⟨S, 0, none⟩) d0 d0) ∧ ((wr.setCell ⟨w.heap.size, k, none⟩ (.slice (some ⟨S, 0, none⟩) d0 d0)).alloc (.cells (madeCells #[.int .i32 0] d0) 21)).rowIs S 21 d0 (fun _ => .int .i32 0) ∧ Below w.heap.size w ((wr.setCell ⟨w.heap.size, k, none⟩ (.slice (some ⟨S, 0, none⟩) d0 d0)).alloc (.cells (madeCells #[.int .i32 0] d0) 21))) := ⟨T1.keep (box_below _ _), C2, R1, B1⟩
      have c2 := C2
      clear eS2 C2 T1 C1 R1 B1 hrow hbel hr hmr
      go_wp2
      clear hmr2 r0 s0 x3 c2
      go_loopw [33] (fun i wr => ∃ j : Nat, j ≤ d0 ∧ i = .int .i64 j ∧ TRow wr w.heap.size 74 n0 (Pg.tab n0 d0 (Pg.keyAt ks)) k S ∧ wr.cell? ⟨w.heap.size, k, none⟩ = some (.slice (some ⟨S, 0, none⟩) d0 d0) ∧ wr.rowIs S 21 d0 (part (Pg.keyAt ks k) j) ∧ Below w.heap.size w wr) (fun i _ => d0 - (intOf i).toNat)
      case atStart => exact ⟨0, Nat.zero_le _, rfl, ALL.out.1, ALL.out.2.1, ALL.out.2.2.1.congr (fun j hj => by simp [part]), ALL.out.2.2.2⟩
      case round =>
        clear ALL eS
        obtain ⟨j, hj, rfl, htop, hcl, hrow, hbel⟩ := hrel
        by_cases hjl : j < d0
        · obtain ⟨x, ex⟩ : ∃ x, Pg.keyAt ks k j = x := ⟨_, rfl⟩
          have EX : Hid (Pg.keyAt ks k j = x) := ex
          have HR : Hid (wr.rowIs S 21 d0 (part (Pg.keyAt ks k) j)) := hrow
          have HB : Hid (Below w.heap.size w wr) := hbel
          have HT : Hid (TRow wr w.heap.size 74 n0 (Pg.tab n0 d0 (Pg.keyAt ks)) k S) := htop
          have HC : Hid (∀ w', Below wr.heap.size wr w' → w'.cell? ⟨w.heap.size, k, none⟩ = some (.slice (some ⟨S, 0, none⟩) d0 d0)) := fun w' hb => by
            rw [hb.cell (p := ⟨w.heap.size, k, none⟩) (World.block_lt_of_cell? wr _ hcl)]; exact hcl
          clear hrow hbel htop ex
          have e0 : (0 : Int) ≤ (j : Int) := by omega
          have e1 : (j : Int) < (d0 : Int) := by omega
          have e2 : (0 : Int) ≤ (k : Int) := by omega
          have e3 : (k : Int) < (n0 : Int) := by omega
          go_wp2
          clear hcl
          go_region_held3 (fun w' => w'.cell? ⟨w.heap.size, k, none⟩ = some (.slice (some ⟨S, 0, none⟩) d0 d0))
            (first
              | exact HC.out _ ((Below.refl wr.heap.size wr).drew)
              | exact HC.out _ hbc.out
              | exact HS.out _
              | assumption)
            (first
              | (go_at_call 101; refine (keyP_any p m0 m1 n0 d0 h4 h5 h6 ks vs k j x _ (H.out.keep (HB.out.trans ((Below.refl w.heap.size wr).drew))) hlt hjl EX.out).mono ?_; rintro e v ⟨rfl, hb⟩; have hbc : Hid (Below wr.heap.size wr v) := ((Below.refl wr.heap.size wr).drew).trans hb; have RV : Hid (v.rowIs S 21 d0 (part (Pg.keyAt ks k) j)) := row_keep HR.out hbc.out; have hcg := RV.out.cell hjl; have hfg := RV.out.frozen j; have HS : Hid (∀ y, (v.setCell ⟨S, j, none⟩ y).cell? ⟨w.heap.size, k, none⟩ = some (.slice (some ⟨S, 0, none⟩) d0 d0)) := (fun y => by rw [World.cell?_of_block (w := v) (Go.Deep.blk_setCell_other _ _ _ _ (by show w.heap.size ≠ S; omega))]; exact HC.out _ hbc.out); clear hb))
          all_goals go_wp2
          all_goals go_roundw
          case rel =>
            refine ⟨j + 1, by omega, by go_num, (HT.out.keep hbc.out).other (by omega) (Nat.le_refl _) _, HS.out _, ?_, (below_then HB.out hbc.out).setCell (by show w.heap.size ≤ S; omega) _⟩
            rw [← EX.out]
            exact (RV.out.set j _).congr (fun q hq => part_set _ j q)
          case measure => simp [intOf]; omega
        · have ej : j = d0 := by omega
          subst ej
          have TT : Hid (TRow wr w.heap.size 74 n0 (Pg.tab n0 j (Pg.keyAt ks)) (k + 1) wr.heap.size) := (htop.close hlt hcl (by omega) (Nat.le_refl _) (by rw [Pg.row_tab hlt, Ls.gen_length]) hrow (fun q hq => by rw [part_lt hq, Pg.row_tab hlt, Ls.nth_gen hq])).mono (by have := hrow.lt; omega)
          have HB : Hid (Below w.heap.size w wr) := hbel
          clear htop hcl hrow hbel
          go_wp2
          go_roundw
          case rel => exact ⟨k + 1, by omega, by go_num, TT.out, HB.out⟩
          case measure => simp [intOf]; omega
    · have e : k = n0 := by omega
      subst e
      have T : Hid (TRow wr w.heap.size 74 k (Pg.tab k d0 (Pg.keyAt ks)) k wr.heap.size) := hrow
      have HB : Hid (Below w.heap.size w wr) := hbel
      clear hrow hbel hmr
      go_wp2
      go_ret
      exact ⟨w.heap.size, wr.heap.size, rfl, Nat.le_refl _, T.out, HB.out⟩
theorem keys_any (p m0 m1 n0 d0 : Nat) (h4 h5 h6 : Int) (ks vs : List (Int × Int × List Int)) (w : World) (h : PageAt w p m0 m1 n0 d0 h4 h5 h6 ks vs) :
    Calls Tryz.prog 64 #[.pointer (some ⟨p, 0, none⟩)] w fun e w' => ∃ g B, e = .returned (.slice (some ⟨g, 0, none⟩) n0 n0) ∧ w.heap.size ≤ g ∧ TRow w' g 74 n0 (Pg.tab n0 d0 (Pg.keyAt ks)) n0 B ∧ Below w.heap.size w w' := by
  have H : Hid (PageAt w p m0 m1 n0 d0 h4 h5 h6 ks vs) := h
  clear h
  go_enter Tryz.func64, Tryz.ntmps64
  go_wp2_with (go_at_call 100; refine (tokensKey_any p m0 m1 n0 d0 h4 h5 h6 ks vs _ H.out).mono ?_; rintro e v ⟨g, B, rfl, hg, ht, hb⟩; have R : Hid (w.heap.size ≤ g ∧ TRow v g 74 n0 (Pg.tab n0 d0 (Pg.keyAt ks)) n0 B ∧ Below w.heap.size w v) := ⟨hg, ht, hb⟩; clear hg ht hb)
  go_ret
  exact ⟨g, B, rfl, R.out.1, R.out.2.1, R.out.2.2⟩
set_option maxRecDepth 100000 in
set_option maxHeartbeats 1600000 in
theorem tokensValue_any (p m0 m1 n0 d0 : Nat) (h4 h5 h6 : Int) (ks vs : List (Int × Int × List Int)) (w : World) (h : PageAt w p m0 m1 n0 d0 h4 h5 h6 ks vs) :
    Calls Tryz.prog 100 #[.pointer (some ⟨p, 0, none⟩), .func (.func 102) #[.pointer (some ⟨p, 0, none⟩)] #[]] w fun e w' => ∃ g B, e = .returned (.slice (some ⟨g, 0, none⟩) n0 n0) ∧ w.heap.size ≤ g ∧ TRow w' g 74 n0 (Pg.tab n0 d0 (Pg.valAt vs)) n0 B ∧ Below w.heap.size w w' := by
  obtain ⟨k0, k1, b1, b2, b3, b4, _⟩ := Pg.page_nums h.page
  obtain ⟨g1, g2, ⟨_, _, x2, x3, _, _, _⟩, _⟩ := h.cells
  have H : Hid (PageAt w p m0 m1 n0 d0 h4 h5 h6 ks vs) := h
  have hpl := h.lt
  have hmk := run_make_row' (P := Tryz.prog) 42 74 (.slice none 0 0) 24 Tryz.underlying42 Tryz.infoRow32 rfl .i64 .i64 n0 (by omega) (by omega)
  have hmr := run_make_row' (P := Tryz.prog) 74 21 (.int .i32 0) 4 Tryz.underlying74 Tryz.infoInt32 rfl .i64 .i64 d0 (by omega) (by omega)
  clear h k0 k1 x3
  go_enter Tryz.func100, Tryz.ntmps100
  go_wp2
  clear hmk x2
  go_loopw [16] (fun i wr => ∃ k : Nat, k ≤ n0 ∧ i = .int .i64 k ∧ TRow wr w.heap.size 74 n0 (Pg.tab n0 d0 (Pg.valAt vs)) k wr.heap.size ∧ Below w.heap.size w wr) (fun i _ => n0 - (intOf i).toNat)
  case atStart => exact ⟨0, Nat.zero_le _, rfl, ⟨_, World.rowIs_made w (.slice none 0 0) n0 74, fun i hi => by omega⟩, (Below.refl _ _).alloc (Nat.le_refl _) _⟩
  case round =>
    obtain ⟨k, hk, rfl, hrow, hbel⟩ := hrel
    by_cases hlt : k < n0
    · obtain ⟨S, eS⟩ : ∃ S, wr.heap.size = S := ⟨_, rfl⟩
      have hgS : w.heap.size < S := by rw [← eS]; exact hrow.lt
      obtain ⟨f, hr⟩ := hrow.room
      have r0 := hr.cell hlt
      have s0 := hr.frozen k
      rw [eS] at hrow
      have hmr2 := hmr wr
      rw [eS] at hmr2
      obtain ⟨_, _, ⟨_, _, _, x3, _, _, _⟩, _⟩ := (H.out.keep hbel).cells
      obtain ⟨T1, C1⟩ := hrow.top hlt (.slice (some ⟨S, 0, none⟩) d0 d0)
      have eS2 : (wr.setCell ⟨w.heap.size, k, none⟩ (.slice (some ⟨S, 0, none⟩) d0 d0)).heap.size = S := by rw [← eS]; simp [World.setCell]
      have C2 : ((wr.setCell ⟨w.heap.size, k, none⟩ (.slice (some ⟨S, 0, none⟩) d0 d0)).alloc (.cells (madeCells #[.int .i32 0] d0) 21)).cell? ⟨w.heap.size, k, none⟩ = some (.slice (some ⟨S, 0, none⟩) d0 d0) := by
        rw [(box_below _ _).cell (p := ⟨w.heap.size, k, none⟩) (by rw [eS2]; exact hgS)]
        exact C1
      have R1 : ((wr.setCell ⟨w.heap.size, k, none⟩ (.slice (some ⟨S, 0, none⟩) d0 d0)).alloc (.cells (madeCells #[.int .i32 0] d0) 21)).rowIs S 21 d0 (fun _ => .int .i32 0) := by
        have := World.rowIs_made (wr.setCell ⟨w.heap.size, k, none⟩ (.slice (some ⟨S, 0, none⟩) d0 d0)) (.int .i32 0) d0 21
        rw [eS2] at this
        exact this
      have B1 : Below w.heap.size w ((wr.setCell ⟨w.heap.size, k, none⟩ (.slice (some ⟨S, 0, none⟩) d0 d0)).alloc (.cells (madeCells #[.int .i32 0] d0) 21)) := (hbel.setCell (by simp) _).alloc (by rw [eS2]; omega) _
      have ALL : Hid (TRow ((wr.setCell ⟨w.heap.size, k, none⟩ (.slice (some ⟨S, 0, none⟩) d0 d0)).alloc (.cells (madeCells #[.int .i32 0] d0) 21)) w.heap.size 74 n0 (Pg.tab n0 d0 (Pg.valAt vs)) k S ∧ ((wr.setCell ⟨w.heap.size, k, none⟩ (.slice (some ⟨S, 0, none⟩) d0 d0)).alloc (.cells (madeCells #[.int .i32 0] d0) 21)).cell? ⟨w.heap.size, k, none⟩ = some (.slice (some ⟨S, 0, none⟩) d0 d0) ∧ ((wr.setCell ⟨w.heap.size, k, none⟩ (.slice (some ⟨S, 0, none⟩) d0 d0)).alloc (.cells (madeCells #[.int .i32 0] d0) 21)).rowIs S 21 d0 (fun _ => .int .i32 0) ∧ Below w.heap.size w ((wr.setCell ⟨w.heap.size, k, none⟩ (.slice (some ⟨S, 0, none⟩) d0 d0)).alloc (.cells (madeCells #[.int .i32 0] d0) 21))) := ⟨T1.keep (box_below _ _), C2, R1, B1⟩
      have c2 := C2
      clear eS2 C2 T1 C1 R1 B1 hrow hbel hr hmr
      go_wp2
      clear hmr2 r0 s0 x3 c2
      go_loopw [33] (fun i wr => ∃ j : Nat, j ≤ d0 ∧ i = .int .i64 j ∧ TRow wr w.heap.size 74 n0 (Pg.tab n0 d0 (Pg.valAt vs)) k S ∧ wr.cell? ⟨w.heap.size, k, none⟩ = some (.slice (some ⟨S, 0, none⟩) d0 d0) ∧ wr.rowIs S 21 d0 (part (Pg.valAt vs k) j) ∧ Below w.heap.size w wr) (fun i _ => d0 - (intOf i).toNat)
      case atStart => exact ⟨0, Nat.zero_le _, rfl, ALL.out.1, ALL.out.2.1, ALL.out.2.2.1.congr (fun j hj => by simp [part]), ALL.out.2.2.2⟩
      case round =>
        clear ALL eS
        obtain ⟨j, hj, rfl, htop, hcl, hrow, hbel⟩ := hrel
        by_cases hjl : j < d0
        · obtain ⟨x, ex⟩ : ∃ x, Pg.valAt vs k j = x := ⟨_, rfl⟩
          have EX : Hid (Pg.valAt vs k j = x) := ex
          have HR : Hid (wr.rowIs S 21 d0 (part (Pg.valAt vs k) j)) := hrow
          have HB : Hid (Below w.heap.size w wr) := hbel
          have HT : Hid (TRow wr w.heap.size 74 n0 (Pg.tab n0 d0 (Pg.valAt vs)) k S) := htop
          have HC : Hid (∀ w', Below wr.heap.size wr w' → w'.cell? ⟨w.heap.size, k, none⟩ = some (.slice (some ⟨S, 0, none⟩) d0 d0)) := fun w' hb => by
            rw [hb.cell (p := ⟨w.heap.size, k, none⟩) (World.block_lt_of_cell? wr _ hcl)]; exact hcl
          clear hrow hbel htop ex
          have e0 : (0 : Int) ≤ (j : Int) := by omega
          have e1 : (j : Int) < (d0 : Int) := by omega
          have e2 : (0 : Int) ≤ (k : Int) := by omega
          have e3 : (k : Int) < (n0 : Int) := by omega
          go_wp2
          clear hcl
          go_region_held3 (fun w' => w'.cell? ⟨w.heap.size, k, none⟩ = some (.slice (some ⟨S, 0, none⟩) d0 d0))
            (first
              | exact HC.out _ ((Below.refl wr.heap.size wr).drew)
              | exact HC.out _ hbc.out
              | exact HS.out _
              | assumption)
            (first
              | (go_at_call 102; refine (valueP_any p m0 m1 n0 d0 h4 h5 h6 ks vs k j x _ (H.out.keep (HB.out.trans ((Below.refl w.heap.size wr).drew))) hlt hjl EX.out).mono ?_; rintro e v ⟨rfl, hb⟩; have hbc : Hid (Below wr.heap.size wr v) := ((Below.refl wr.heap.size wr).drew).trans hb; have RV : Hid (v.rowIs S 21 d0 (part (Pg.valAt vs k) j)) := row_keep HR.out hbc.out; have hcg := RV.out.cell hjl; have hfg := RV.out.frozen j; have HS : Hid (∀ y, (v.setCell ⟨S, j, none⟩ y).cell? ⟨w.heap.size, k, none⟩ = some (.slice (some ⟨S, 0, none⟩) d0 d0)) := (fun y => by rw [World.cell?_of_block (w := v) (Go.Deep.blk_setCell_other _ _ _ _ (by show w.heap.size ≠ S; omega))]; exact HC.out _ hbc.out); clear hb))
          all_goals go_wp2
          all_goals go_roundw
          case rel =>
            refine ⟨j + 1, by omega, by go_num, (HT.out.keep hbc.out).other (by omega) (Nat.le_refl _) _, HS.out _, ?_, (below_then HB.out hbc.out).setCell (by show w.heap.size ≤ S; omega) _⟩
            rw [← EX.out]
            exact (RV.out.set j _).congr (fun q hq => part_set _ j q)
          case measure => simp [intOf]; omega
        · have ej : j = d0 := by omega
          subst ej
          have TT : Hid (TRow wr w.heap.size 74 n0 (Pg.tab n0 j (Pg.valAt vs)) (k + 1) wr.heap.size) := (htop.close hlt hcl (by omega) (Nat.le_refl _) (by rw [Pg.row_tab hlt, Ls.gen_length]) hrow (fun q hq => by rw [part_lt hq, Pg.row_tab hlt, Ls.nth_gen hq])).mono (by have := hrow.lt; omega)
          have HB : Hid (Below w.heap.size w wr) := hbel
          clear htop hcl hrow hbel
          go_wp2
          go_roundw
          case rel => exact ⟨k + 1, by omega, by go_num, TT.out, HB.out⟩
          case measure => simp [intOf]; omega
    · have e : k = n0 := by omega
      subst e
      have T : Hid (TRow wr w.heap.size 74 k (Pg.tab k d0 (Pg.valAt vs)) k wr.heap.size) := hrow
      have HB : Hid (Below w.heap.size w wr) := hbel
      clear hrow hbel hmr
      go_wp2
      go_ret
      exact ⟨w.heap.size, wr.heap.size, rfl, Nat.le_refl _, T.out, HB.out⟩
theorem values_any (p m0 m1 n0 d0 : Nat) (h4 h5 h6 : Int) (ks vs : List (Int × Int × List Int)) (w : World) (h : PageAt w p m0 m1 n0 d0 h4 h5 h6 ks vs) :
    Calls Tryz.prog 65 #[.pointer (some ⟨p, 0, none⟩)] w fun e w' => ∃ g B, e = .returned (.slice (some ⟨g, 0, none⟩) n0 n0) ∧ w.heap.size ≤ g ∧ TRow w' g 74 n0 (Pg.tab n0 d0 (Pg.valAt vs)) n0 B ∧ Below w.heap.size w w' := by
  have H : Hid (PageAt w p m0 m1 n0 d0 h4 h5 h6 ks vs) := h
  clear h
  go_enter Tryz.func65, Tryz.ntmps65
  go_wp2_with (go_at_call 100; refine (tokensValue_any p m0 m1 n0 d0 h4 h5 h6 ks vs _ H.out).mono ?_; rintro e v ⟨g, B, rfl, hg, ht, hb⟩; have R : Hid (w.heap.size ≤ g ∧ TRow v g 74 n0 (Pg.tab n0 d0 (Pg.valAt vs)) n0 B ∧ Below w.heap.size w v) := ⟨hg, ht, hb⟩; clear hg ht hb)
  go_ret
  exact ⟨g, B, rfl, R.out.1, R.out.2.1, R.out.2.2⟩
end Go.Proofs.YtnchnlgnnlgjcaaGreat
