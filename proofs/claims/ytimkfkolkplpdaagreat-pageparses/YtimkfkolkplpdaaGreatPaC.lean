/- The document's own reader of a page's groups (layer 8). -/
import Derived.Test.YtimkfkolkplpdaaGreatPaB
import Derived.Deep.CutRange
namespace Go.Proofs.YtimkfkolkplpdaaGreat
set_option linter.unusedVariables false
open Go.RowKit
attribute [local go_sem ↓] Go.wp_at_zero Go.wp_at_succ

theorem refWords_anym (n b N : Nat) (h : Pk.Ok b) (hn : n ≤ 256) (hN : Pk.size b n = N) (w : World) :
    Calls Tryz.prog 80 #[.int .i64 n, .int .i64 b] w fun e w' => e = .returned (.int .i64 (N : Nat)) ∧ w' = w := by
  subst hN
  exact refWords_any n b h hn w
theorem refRest_anym (a : Option Addr) (m c n b : Nat) (ws : List Int) (q : Bool) (h : Pk.Ok b) (hn : n ≤ 256) (w : World) (hm : ws.length = m) (ha : Lst .u64 w a ws) (hw : Pk.Wds ws) (hl : Pk.size b n = m) (hq : Pk.stray b n ws = q) :
    Calls Tryz.prog 82 #[.slice a m c, .int .i64 n, .int .i64 b] w fun e w' => e = .returned (.bool q) ∧ w' = w := by
  subst hm
  subst hq
  exact refRest_any a c n b ws h hn w ha hw hl.symm
theorem refLane_anym (a : Option Addr) (m c i b : Nat) (ws : List Int) (y : Nat) (h : Pk.Ok b) (hi : i ≤ 1000000) (hf : Pk.word b i < m) (w : World) (hm : ws.length = m) (ha : Lst .u64 w a ws) (hw : Pk.Wds ws) (hy : Pk.lane b ws i = y) :
    Calls Tryz.prog 83 #[.slice a m c, .int .i64 i, .int .i64 b] w fun e w' => e = .returned (.int .i64 (y : Nat)) ∧ Below w.heap.size w w' := by
  subst hm
  subst hy
  exact (refLane_any a c i b ws h hi hf w ha hw).mono fun e w' ⟨h1, n, h2⟩ => ⟨h1, by rw [h2]; exact below_drewN (Below.refl _ _) n⟩
theorem refRightGm (z sc : Int) (a : Option Addr) (m cp b s : Nat) (c : List Int) (e : Int) (w : World) (hm : c.length = m) (ha : Lst .i64 w a c) (hst : Gp.St b s) (h0 : 0 < m) (hl : m ≤ 256) (hs1 : 0 ≤ sc) (hs2 : sc ≤ 4294967295) (he : Gp.right s sc c = e) :
    Calls Tryz.prog 33 #[.agg #[.int .i32 z, .int .u32 sc, .slice a m cp], .int .i64 b] w fun r w' => r = .returned (.int .i64 e) ∧ Below w.heap.size w w' := by
  subst hm
  exact refRightG_any z sc a cp b s c e w ha hst h0 hl hs1 hs2 he
/-- Pieces of a text. -/
theorem Sl.cut_to {l : List Int} {t : ByteArray} (h : strOfNums l = t) (n : Nat) : t.extract 0 n = strOfNums (l.take n) := by rw [← h, Sl.text_take]
theorem Sl.cut_from {l : List Int} {t : ByteArray} (h : strOfNums l = t) (n : Nat) : t.extract n t.size = strOfNums (l.drop n) := by rw [← h, strOfNums_size, Sl.text_drop]
theorem Sl.cut_mid {l : List Int} {t : ByteArray} (h : strOfNums l = t) (m n : Nat) (hn : n ≤ l.length) : t.extract m n = strOfNums ((l.take n).drop m) := by
  rw [← h]
  apply ByteArray.ext
  simp [strOfNums, ByteArray.data_extract, List.map_take, List.map_drop, List.extract_eq_take_drop, List.drop_take]
theorem Sl.cut_size {l : List Int} {t : ByteArray} (h : strOfNums l = t) : t.size = l.length := by rw [← h, strOfNums_size]

theorem Pg.gerrN_here {b n : Nat} {l : List Int} {k d : Nat} {e1 e : Int} (he : Pg.gerrN b n l d = e) (hk : k < d) (h1 : Pg.gerrN b n l (k + 1) = e1) (hz : ¬ e1 = 0) : e1 = e := by
  rw [← he, ← h1]
  obtain ⟨q, rfl⟩ := Nat.exists_eq_add_of_le (show k + 1 ≤ d by omega)
  exact (Pg.gerrN_stop (by rw [h1]; exact hz) q).symm
/-- Where an own row begins. -/
theorem own_from {w : World} {base sz : Nat} {t : TypeId} {a : Option Addr} {n c : Nat} {xs : List Value} (h : w.ownsRow base t sz (.slice a n c) n xs) : ∀ x, a = some x → base ≤ x.block ∧ x.block < w.heap.size := by
  intro x ex
  subst ex
  rcases h.2 with ⟨e1, _⟩ | ⟨g, cap, cur, e1, _⟩
  · injection e1 with q1 _ _; cases q1
  · injection e1 with q1 _ _
    cases q1
    exact h.lt g (by rfl)

set_option maxRecDepth 100000 in
set_option maxHeartbeats 3200000 in
theorem refRead_any (t : ByteArray) (l : List Int) (b s n d : Nat) (e : Int) (t2 : ByteArray) (w : World) (ht : strOfNums l = t) (hb : Sl.Byt l) (hl0 : l.length ≤ 10000) (hst : Gp.St b s) (h1 : 1 ≤ n) (h2 : n ≤ 16) (hd : d ≤ 16) (hl : Pg.gsize b n * d ≤ l.length) (he : Pg.gerrN b n l d = e) (ht2 : strOfNums (l.drop (Pg.gsize b n * d)) = t2) :
    Calls Tryz.prog 53 #[.string t, .int .i64 d, .int .i64 n, .int .i64 b] w fun r w' => Below w.heap.size w w' ∧ (¬ e = 0 → ∃ t', r = .returned (.tuple #[.slice none 0 0, .string t', .int .i64 e])) ∧
      (e = 0 → ∃ a c, r = .returned (.tuple #[.slice a d c, .string t2, .int .i64 0]) ∧ ∀ F : World, (∀ g, w.heap.size ≤ g → g < w'.heap.size → F.heap[g]? = w'.heap[g]?) → Gps F a (Pg.greads b n d l)) := by
  obtain ⟨i0, hi0, hi1, hi2, hi3⟩ := info_parts Tryz.infoRG
  obtain ⟨j0, hj0, hj1, hj2, hj3⟩ := info_parts Tryz.infoU64
  obtain ⟨k0, hk0, hk1, hk2, hk3⟩ := info_parts Tryz.infoIntG
  have ok : Pk.Ok b := St.ok hst
  have bd := hst.bd
  obtain ⟨N, eN⟩ : ∃ N, Pk.size b n = N := ⟨_, rfl⟩
  have hN : N ≤ 32 := by rw [← eN]; exact Pk.size_le ok (by omega)
  have HG : Hid (Pg.gsize b n = 8 + 8 * N) := by show 8 + 8 * Pk.size b n = _; rw [eN]
  have EN : Hid (Pk.size b n = N) := eN
  have HL : Hid (Pg.gsize b n * d ≤ l.length) := hl
  have HE : Hid (Pg.gerrN b n l d = e) := he
  have HT : Hid (strOfNums l = t) := ht
  have HT2 : Hid (strOfNums (l.drop (Pg.gsize b n * d)) = t2) := ht2
  have BY : Hid (Sl.Byt l) := hb
  have ST : Hid (Gp.St b s) := hst
  have OK : Hid (Pk.Ok b) := ok
  clear hst he hl eN ht ht2 hb ok
  go_enter Tryz.func53, Tryz.ntmps53
  go_wp2
  go_loopw [0, 11, 12] (fun v0 v i wr => ∃ (k : Nat) (tk : ByteArray) (A : Nat → Option Addr) (C : Nat → Nat), k ≤ d ∧ v0 = .string tk ∧ strOfNums (l.drop (Pg.gsize b n * k)) = tk ∧ i = .int .i64 k ∧ wr.ownsRow w.heap.size 72 3 v k (gflat (Pg.greads b n d l) A C k) ∧ (∀ j, j < k → Lst .i64 wr (A j) (Pg.gc (Pg.nth (Pg.greads b n d l) j)) ∧ ∀ x, A j = some x → some x.block ≠ v.ownBlock ∧ x.block < wr.heap.size ∧ w.heap.size ≤ x.block) ∧ Below w.heap.size w wr ∧ Pg.gerrN b n l k = 0) (fun _ _ i _ => d - (intOf i).toNat)
  case atStart => exact ⟨0, t, fun _ => none, fun _ => 0, Nat.zero_le _, rfl, by rw [Nat.mul_zero, List.drop_zero]; exact HT.out, rfl, World.ownsRow_nil _ _ _ _, fun j hj => by omega, Below.refl _ _, rfl⟩
  case round =>
    obtain ⟨k, tk, A, C, hk, rfl, htk, rfl, hown, hlst, hbel, herr⟩ := hrel
    obtain ⟨u2, hu2⟩ : ∃ u2 : World, u2 = wr := ⟨wr, rfl⟩
    subst hu2
    obtain ⟨x7, e7, rfl⟩ := Pg.own3 hown
    have HO : Hid (u2.ownsRow w.heap.size 72 3 (.slice x7 k e7) k (gflat (Pg.greads b n d l) A C k)) := hown
    have HA : Hid (∀ j, j < k → Lst .i64 u2 (A j) (Pg.gc (Pg.nth (Pg.greads b n d l) j)) ∧ ∀ x, A j = some x → some x.block ≠ (Value.slice x7 k e7).ownBlock ∧ x.block < u2.heap.size ∧ w.heap.size ≤ x.block) := hlst
    have HB : Hid (Below w.heap.size w u2) := hbel
    have HZ : Hid (Pg.gerrN b n l k = 0) := herr
    have hsz := hbel.size
    have TK : Hid (strOfNums (l.drop (Pg.gsize b n * k)) = tk) := htk
    clear hown hlst hbel herr htk
    by_cases hlt : k < d
    · obtain ⟨L, eL⟩ : ∃ L, l.drop (Pg.gsize b n * k) = L := ⟨_, rfl⟩
      have byt : Sl.Byt L := by rw [← eL]; exact Pg.byt_drop BY.out _
      have hL8 : 8 + 8 * N ≤ L.length := by
        have h9 := HL.out
        have hm : Pg.gsize b n * (k + 1) ≤ Pg.gsize b n * d := Nat.mul_le_mul_left _ hlt
        rw [Nat.mul_succ] at hm
        rw [← eL, List.length_drop, ← HG.out]
        omega
      have hL0 : L.length ≤ 10000 := by rw [← eL, List.length_drop]; omega
      have T0 : Hid (strOfNums L = tk) := by show _ = _; rw [← eL]; exact TK.out
      have EL : Hid (l.drop (Pg.gsize b n * k) = L) := eL
      have EL2 : Hid (l.drop (Pg.gsize b n * (k + 1)) = L.drop (8 + 8 * N)) := by show _ = _; rw [Nat.mul_succ, ← List.drop_drop, eL, HG.out]
      have zt : tk.size = L.length := Sl.cut_size T0.out
      obtain ⟨y1, ey1⟩ : ∃ y, strOfNums (L.take 4) = y := ⟨_, rfl⟩
      obtain ⟨y2, ey2⟩ : ∃ y, strOfNums ((L.drop 4).take 4) = y := ⟨_, rfl⟩
      obtain ⟨y3, ey3⟩ : ∃ y, strOfNums (L.drop 8) = y := ⟨_, rfl⟩
      have x1 : tk.extract 0 4 = y1 := by rw [Sl.cut_to T0.out]; exact ey1
      have x2 : tk.extract 4 8 = y2 := by rw [Sl.cut_mid T0.out 4 8 (by omega), List.drop_take]; exact ey2
      have x3 : tk.extract 8 tk.size = y3 := by rw [Sl.cut_from T0.out]; exact ey3
      have Y1 : Hid (strOfNums (L.take 4) = y1) := ey1
      have Y2 : Hid (strOfNums ((L.drop 4).take 4) = y2) := ey2
      have Y3 : Hid (strOfNums (L.drop 8) = y3) := ey3
      obtain ⟨z, ez⟩ : ∃ z, Sl.sgn (Sl.num (L.take 4)) = z := ⟨_, rfl⟩
      obtain ⟨sc, es⟩ : ∃ q : Nat, Sl.num ((L.drop 4).take 4) = q := ⟨_, rfl⟩
      obtain ⟨ws, ew⟩ : ∃ ws, Pg.words N (L.drop 8) = ws := ⟨_, rfl⟩
      obtain ⟨cd, ecd⟩ : ∃ cd, Pk.unpack b n ws = cd := ⟨_, rfl⟩
      obtain ⟨q, eq⟩ : ∃ q, Pk.stray b n ws = q := ⟨_, rfl⟩
      obtain ⟨e1, ee1⟩ : ∃ e1, Gp.right (s : Int) (sc : Int) cd = e1 := ⟨_, rfl⟩
      have scb : sc < 4294967296 := by rw [← es]; exact Pg.num4_lt (Pg.byt_take (Pg.byt_drop byt 4) 4) (by simp; omega)
      have hc32 : IntKind.u32.wrap (sc : Int) = (sc : Int) := by rw [IntKind.wrap_u32]; omega
      have WL : Hid (ws.length = N) := by rw [← ew]; exact Pg.words_length _ _
      have WD : Hid (Pk.Wds ws) := by rw [← ew]; exact Pg.words_wds (Pg.byt_drop byt 8) (by simp; omega)
      have CL : Hid (cd.length = n) := by rw [← ecd]; exact Pk.unpack_length _ _ _
      have EG : Hid (Pg.gerrN b n l (k + 1) = if q = true then 10 else e1) := by
        show _ = _
        rw [Pg.gerrN_ok HZ.out, eL, ← eq, ← ee1, ← ecd, ← ew, ← es]
        unfold Pg.gerr
        rw [EN.out, Pg.st_pow ST.out]
        unfold Pg.gread Pg.gs Pg.gc
        rw [EN.out]
      have EGR : Hid (Pg.nth (Pg.greads b n d l) k = (z, (sc : Int), cd)) := by
        show _ = _
        rw [Pg.nth_greads hlt, eL]
        unfold Pg.gread
        rw [EN.out, ez, es, ew, ecd]
      have EZ : Hid (Sl.sgn (Sl.num (L.take 4)) = z) := ez
      have ES : Hid (Sl.num ((L.drop 4).take 4) = sc) := es
      have EW : Hid (Pg.words N (L.drop 8) = ws) := ew
      have ECD : Hid (Pk.unpack b n ws = cd) := ecd
      have EQ : Hid (Pk.stray b n ws = q) := eq
      have EE1 : Hid (Gp.right (s : Int) (sc : Int) cd = e1) := ee1
      have BYL : Hid (Sl.Byt L) := byt
      have L4 : Hid ((L.take 4).length ≤ 4) := by show _ ≤ _; simp; omega
      have L48 : Hid (((L.drop 4).take 4).length ≤ 8) := by show _ ≤ _; simp; omega
      obtain ⟨G, eG⟩ : ∃ G, u2.heap.size = G := ⟨_, rfl⟩
      have GE : Hid (u2.heap.size = G) := eG
      have zs4 : (4 : Int) ≤ (tk.size : Int) := by omega
      have zs8 : (8 : Int) ≤ (tk.size : Int) := by omega
      have zn8 : 8 ≤ tk.size := by omega
      have zn0 : tk.size ≤ 10000 := by omega
      clear byt eL zt ey1 ey2 ey3 ez es ew ecd eq ee1 eG
      go_wp2
      go_cut [13] from 18 to 77 (fun v wc => v = .pointer (some ⟨G, 0, none⟩) ∧ wc.rowIs G 72 3 (gcell z (sc : Int) (.slice none 0 0)) ∧ Below G u2 wc ∧ wc.heap.size = G + 1)
      case first =>
        go_region_held3 (fun _ => True) (trivial)
          (first
            | (go_at_call 81; refine (refSigned_any y1 (L.take 4) z Y1.out L4.out EZ.out _ (Pg.byt_take BYL.out 4)).mono ?_; rintro e w' ⟨rfl, hw⟩; cases hw.symm; clear hw)
            | (go_at_call 51; refine (refNumber_any y2 ((L.drop 4).take 4) sc Y2.out L48.out ES.out _ (Pg.byt_take (Pg.byt_drop BYL.out 4) 4)).mono ?_; rintro e w' ⟨rfl, hw⟩; cases hw.symm; clear hw))
        all_goals
          go_wp2
          go_meet
          case rel =>
            refine ⟨by rw [GE.out], ?_, ?_, ?_⟩
            · rw [← GE.out]; exact (gcell_alloc u2 z (sc : Int) (.slice none 0 0) 72).of_block rfl
            · rw [← GE.out]; exact (box_below u2 _).drew
            · rw [← GE.out]; simp
      case rest =>
        obtain ⟨rfl, hrow, hbel, hwc⟩ := hcut
        have R0 : Hid (wc.rowIs G 72 3 (gcell z (sc : Int) (.slice none 0 0))) := hrow
        have BC : Hid (Below G u2 wc) := hbel
        have hG : G < wc.heap.size := hrow.lt
        clear hrow hbel hwc
        go_wp2
        clear x1 x2 x3 hc32
        go_loopw [0, 14, 15] (fun v0 v i wr => ∃ (j : Nat) (tj : ByteArray), j ≤ N ∧ v0 = .string tj ∧ strOfNums (L.drop (8 + 8 * j)) = tj ∧ i = .int .i64 j ∧ wr.ownsRow wc.heap.size 99 1 v j ((Ls.gen j fun i => (Sl.num (Pg.piece 8 i (L.drop 8)) : Int)).map (Value.int .u64)) ∧ Below wc.heap.size wc wr) (fun _ _ i _ => N - (intOf i).toNat)
        case atStart => exact ⟨0, y3, Nat.zero_le _, rfl, Y3.out, rfl, World.ownsRow_nil _ _ _ _, Below.refl _ _⟩
        case round =>
          obtain ⟨j, tj, hj, rfl, htj, rfl, hown, hbel⟩ := hrel
          obtain ⟨va, vc, rfl⟩ := own_slice hown
          have HC : Hid (wr.ownsRow wc.heap.size 99 1 (.slice va j vc) j ((Ls.gen j fun i => (Sl.num (Pg.piece 8 i (L.drop 8)) : Int)).map (Value.int .u64))) := hown
          have HW : Hid (Below wc.heap.size wc wr) := hbel
          have hsw := hbel.size
          have TJ : Hid (strOfNums (L.drop (8 + 8 * j)) = tj) := htj
          clear hown hbel htj
          by_cases hjl : j < N
          · obtain ⟨p1, ep1⟩ : ∃ y, strOfNums ((L.drop (8 + 8 * j)).take 8) = y := ⟨_, rfl⟩
            obtain ⟨p2, ep2⟩ : ∃ y, strOfNums (L.drop (8 + 8 * (j + 1))) = y := ⟨_, rfl⟩
            obtain ⟨y, ey⟩ : ∃ y : Nat, Sl.num ((L.drop (8 + 8 * j)).take 8) = y := ⟨_, rfl⟩
            have f1 : tj.extract 0 8 = p1 := by rw [Sl.cut_to TJ.out]; exact ep1
            have f2 : tj.extract 8 tj.size = p2 := by rw [Sl.cut_from TJ.out, List.drop_drop, show 8 + 8 * j + 8 = 8 + 8 * (j + 1) by omega]; exact ep2
            have zj : tj.size = (L.drop (8 + 8 * j)).length := Sl.cut_size TJ.out
            rw [List.length_drop] at zj
            have zj8 : 8 ≤ tj.size := by omega
            have zj0 : tj.size ≤ 10000 := by omega
            have P1 : Hid (strOfNums ((L.drop (8 + 8 * j)).take 8) = p1) := ep1
            have P2 : Hid (strOfNums (L.drop (8 + 8 * (j + 1))) = p2) := ep2
            have EY : Hid (Sl.num ((L.drop (8 + 8 * j)).take 8) = y) := ey
            have EYP : Hid ((y : Int) = (Sl.num (Pg.piece 8 j (L.drop 8)) : Int)) := by show _ = _; rw [← ey]; unfold Pg.piece; rw [List.drop_drop]
            have L8 : Hid (((L.drop (8 + 8 * j)).take 8).length ≤ 8) := by show _ ≤ _; simp; omega
            have e1' : (j : Int) < (N : Int) := by omega
            clear ep1 ep2 ey zj
            go_wp2_with (first
              | (go_at_call 80; refine (refWords_anym n b N OK.out (by omega) EN.out _).mono ?_; rintro e w' ⟨rfl, hw⟩; cases hw.symm; clear hw)
              | (go_at_call 51; refine (refNumber_any p1 ((L.drop (8 + 8 * j)).take 8) y P1.out L8.out EY.out _ (Pg.byt_take (Pg.byt_drop BYL.out _) 8)).mono ?_; rintro e w' ⟨rfl, hw⟩; cases hw.symm; clear hw)
              | (at_builtin; refine wpList_append_lies _ rfl _ _ _ rfl wc.heap.size 99 j0 _ 1 8 Tryz.underlying85 hj0 hj1 hj2 hj3 rfl (by omega) _ j _ (by rfl) (HC.out.alloc _) ⟨wr.heap.size, 0, none⟩ 1 1 [.int .u64 (y : Int)] (by rfl) (by rfl) (World.news_of_block (cs := #[.int .u64 (y : Int)]) (t := 99) (fr := (0, 0)) (heap_alloc_new wr _)) (by simp [Value.oneCell']) (by omega) (by unfold maxLen; omega) (by omega) (by simp; omega) (wr.heap.size + 1) (by simp) ?_; intro gg cap w1 hown1 hgrow hat hlt1; have B1 : Hid (Below wc.heap.size wc w1) := (HW.out.alloc (by omega) _).grown hgrow (by simp; omega) (fun j hj => (HC.out.lt j hj).1); have O1 : Hid (w1.ownsRow wc.heap.size 99 1 (.slice (some ⟨gg, 0, none⟩) (j + 1) cap) (j + 1) ((Ls.gen j fun i => (Sl.num (Pg.piece 8 i (L.drop 8)) : Int)).map (Value.int .u64) ++ [.int .u64 (y : Int)])) := hown1; clear hown1 hgrow hat))
            go_roundw
            case rel => exact ⟨j + 1, p2, by omega, rfl, P2.out, by go_num, gen_snoc O1.out EYP.out, B1.out⟩
            case measure => simp [intOf]; omega
          · have ej : N = j := by omega
            subst ej
            have WS : wr.ownsRow wc.heap.size 99 1 (.slice va N vc) N (ws.map (Value.int .u64)) := by rw [← EW.out]; exact HC.out
            obtain ⟨a3, c3, h3', hLw⟩ := lst_of_ownm (l := ws) (n := N) WS WL.out.symm
            cases h3'
            obtain ⟨u3, hu3⟩ : ∃ u3 : World, u3 = wr := ⟨wr, rfl⟩
            subst hu3
            have LW : Hid (Lst .u64 u3 va ws) := hLw
            have VG : Hid (∀ x, va = some x → ¬ x.block = G) := fun x ex => by have := (own_from WS x ex).1; omega
            have R3 : Hid (u3.rowIs G 72 3 (gcell z (sc : Int) (.slice none 0 0))) := R0.out.of_block (HW.out.block _ hG)
            have B3 : Hid (Below G u2 u3) := BC.out.trans (HW.out.mono (by omega))
            have hG3 : G < u3.heap.size := by omega
            clear hLw WS hjl hj
            cases q
            · go_wp2_with (first
                | (go_at_call 80; refine (refWords_anym n b N OK.out (by omega) EN.out _).mono ?_; rintro e w' ⟨rfl, hw⟩; cases hw.symm; clear hw)
                | (go_at_call 82; refine (refRest_anym va N vc n b ws false OK.out (by omega) _ WL.out LW.out WD.out EN.out EQ.out).mono ?_; rintro e w' ⟨rfl, hw⟩; cases hw.symm; clear hw))
              go_loopw [16] (fun i wr => ∃ (j : Nat) (v : Value), j ≤ n ∧ i = .int .i64 j ∧ wr.rowIs G 72 3 (gcell z (sc : Int) v) ∧ wr.ownsRow u3.heap.size 3 1 v j ((Ls.gen j fun i => (Pk.lane b ws i : Int)).map (Value.int .i64)) ∧ Below G u2 wr ∧ Keeps u3 wr G) (fun i _ => n - (intOf i).toNat)
              case atStart => exact ⟨0, .slice none 0 0, Nat.zero_le _, rfl, R3.out, World.ownsRow_nil _ _ _ _, B3.out, Keeps.refl _ _⟩
              case round =>
                obtain ⟨j, v, hj, rfl, hrow, hown, hbel, hkp⟩ := hrel
                obtain ⟨xa, xc, rfl⟩ := own_slice hown
                have Q0 : Hid (wr.rowIs G 72 3 (gcell z (sc : Int) (.slice xa j xc))) := hrow
                have O0 : Hid (wr.ownsRow u3.heap.size 3 1 (.slice xa j xc) j ((Ls.gen j fun i => (Pk.lane b ws i : Int)).map (Value.int .i64))) := hown
                have B0 : Hid (Below G u2 wr) := hbel
                have KP : Hid (Keeps u3 wr G) := hkp
                have hs3 : u3.heap.size ≤ wr.heap.size := hkp.1
                have d2 : wr.cell? ⟨G, 2, none⟩ = some (.slice xa j xc) := hrow.cell (show 2 < 3 by decide)
                clear hrow hown hbel hkp
                by_cases hjn : j < n
                · obtain ⟨y, ey⟩ : ∃ y : Nat, Pk.lane b ws j = y := ⟨_, rfl⟩
                  have EY : Hid (Pk.lane b ws j = y) := ey
                  have LW1 : Hid (Lst .u64 wr va ws) := KP.out.lst LW.out VG.out
                  have HWF : Hid (Pk.word b j < N) := by show _ < _; rw [← EN.out]; exact Pk.word_size OK.out hjn
                  clear ey
                  go_wp2
                  go_region_law (first
                    | (refine step_append_lies _ (by rfl) _ _ _ (by rfl) u3.heap.size 3 k0 _ 1 8 Tryz.underlying59 hk0 hk1 hk2 hk3 rfl (by omega) _ j _ (by rfl) (O9.out.alloc _) ⟨v1.heap.size, 0, none⟩ 1 1 [.int .i64 (y : Int)] (by rfl) (by rfl) (World.news_of_block (cs := #[.int .i64 (y : Int)]) (t := 3) (fr := (0, 0)) (heap_alloc_new v1 _)) (by simp [Value.oneCell']) (by omega) (by unfold maxLen; omega) (by omega) (by have := HS9.out; first | (simp; done) | (simp; omega)) (v1.heap.size + 1) (by simp) ?_; intro gg cap w1 hown1 hgrow hat hlt1; have R1 : Hid (w1.rowIs G 72 3 (gcell z (sc : Int) (.slice xa j xc))) := ((Q0.out.of_block (B9.out.block _ Q0.out.lt)).alloc _).of_block (hgrow.block _ (by first | (simp; done) | (simp; omega)) (fun e => by have := (O9.out.lt _ e.symm).1; omega)); have O1 : Hid (w1.ownsRow u3.heap.size 3 1 (.slice (some ⟨gg, 0, none⟩) (j + 1) cap) (j + 1) ((Ls.gen j fun i => (Pk.lane b ws i : Int)).map (Value.int .i64) ++ [.int .i64 (y : Int)])) := hown1; have G1 : Hid ((v1.alloc (.cells #[.int .i64 (y : Int)] 3)).grownBy w1 (Value.slice xa j xc).ownBlock) := hgrow; have c21 : w1.cell? ⟨G, 2, none⟩ = some (.slice xa j xc) := R1.out.cell (show 2 < 3 by decide); have f21 : w1.frozen? ⟨G, 2, none⟩ = false := R1.out.frozen 2; clear hown1 hgrow hat)
                    | (go_simp; go_at_call 83; refine (refLane_anym va N vc j b ws y OK.out (by omega) HWF.out _ WL.out (LW1.out.keep ((Below.refl wr.heap.size wr).drew)) WD.out EY.out).mono ?_; rintro e v1 ⟨rfl, hb9⟩; have B9 : Hid (Below wr.heap.size wr v1) := ((Below.refl wr.heap.size wr).drew).trans hb9; have HS9 : Hid (u3.heap.size ≤ v1.heap.size) := Nat.le_trans hs3 B9.out.size; have c29 : v1.cell? ⟨G, 2, none⟩ = some (.slice xa j xc) := (B9.out.cell (p := ⟨G, 2, none⟩) (World.block_lt_of_cell? wr _ d2)).trans d2; have l29 : G < v1.heap.size := World.block_lt_of_cell? v1 _ c29; have O9 : Hid (v1.ownsRow u3.heap.size 3 1 (.slice xa j xc) j ((Ls.gen j fun i => (Pk.lane b ws i : Int)).map (Value.int .i64))) := own_at O0.out (fun g hg => B9.out.block g (O0.out.lt g hg).2); clear hb9))
                  all_goals
                    go_wp2
                    go_roundw
                    case rel =>
                      have hs1 := B9.out.size
                      refine ⟨j + 1, .slice (some ⟨gg, 0, none⟩) (j + 1) cap, by omega, by go_num, (R1.out.set 2 _).congr (fun q hq => gcell_set _ _ _ _ q hq), own_set (gen_snoc O1.out (by rw [EY.out])) (by show G < u3.heap.size; omega) _, ?_, ?_⟩
                      · refine Below.setCell ?_ (by show G ≤ G; omega) _
                        exact ((B0.out.trans (B9.out.mono (by omega))).alloc (by omega) _).grown G1.out (by simp; omega) (fun q hq => by have := (O9.out.lt q hq).1; omega)
                      · exact Keeps.set (((KP.out.below B9.out).below (box_below _ _)).grown G1.out (fun g hg => (O9.out.lt g hg).1)) 2 _
                    case measure => simp [intOf]; omega
                · have ej : n = j := by omega
                  subst ej
                  have WS : wr.ownsRow u3.heap.size 3 1 (.slice xa n xc) n (cd.map (Value.int .i64)) := by rw [← ECD.out]; exact O0.out
                  obtain ⟨a4, c4, h4', hLc⟩ := lst_of_ownm (l := cd) (n := n) WS CL.out.symm
                  cases h4'
                  have LC : Hid (Lst .i64 wr xa cd) := hLc
                  have XG : Hid (∀ x, xa = some x → u3.heap.size ≤ x.block ∧ x.block < wr.heap.size) := fun x ex => own_from WS x ex
                  have d0 : wr.cell? ⟨G, 0, none⟩ = some (.int .i32 z) := Q0.out.cell (show 0 < 3 by decide)
                  have d1 : wr.cell? ⟨G, 1, none⟩ = some (.int .u32 (sc : Int)) := Q0.out.cell (show 1 < 3 by decide)
                  have GW : Hid (G < wr.heap.size) := Q0.out.lt
                  have EG2 : Hid (Pg.gerrN b n l (k + 1) = e1) := EG.out
                  clear hLc WS hjn hj
                  by_cases hz : e1 = 0
                  · have HZ1 : Hid (e1 = 0) := hz
                    have t0 : (e1 != 0) = false := by simp [hz]
                    clear hz
                    go_wp2_with (first
                      | (go_at_call 33; refine (refRightGm z (sc : Int) xa n xc b s cd e1 _ CL.out LC.out ST.out (by omega) (by omega) (by omega) (by omega) EE1.out).mono ?_; rintro r v5 ⟨rfl, hb⟩; have B5 : Hid (Below wr.heap.size wr v5) := hb; have g0 : v5.cell? ⟨G, 0, none⟩ = some (.int .i32 z) := (hb.cell (p := ⟨G, 0, none⟩) GW.out).trans d0; have g1 : v5.cell? ⟨G, 1, none⟩ = some (.int .u32 (sc : Int)) := (hb.cell (p := ⟨G, 1, none⟩) GW.out).trans d1; have g2 : v5.cell? ⟨G, 2, none⟩ = some (.slice xa n xc) := (hb.cell (p := ⟨G, 2, none⟩) GW.out).trans d2; have O5 : Hid (v5.ownsRow w.heap.size 72 3 (.slice x7 k e7) k (gflat (Pg.greads b n d l) A C k)) := own3_at HO.out (fun g hg => by have hgl := (HO.out.lt g hg).2; rw [GE.out] at hgl; rw [hb.block g (by have := GW.out; omega), B0.out.block g hgl]); have S5 : Hid (w.heap.size ≤ v5.heap.size) := (by show _ ≤ _; have := hb.size; have := GW.out; have := GE.out; omega); clear hb)
                      | (at_builtin; refine wpList_append_lies _ rfl _ _ _ rfl w.heap.size 72 i0 _ 3 32 Tryz.underlying35 hi0 hi1 hi2 hi3 rfl (by omega) _ k _ (by rfl) (O5.out.alloc _) ⟨v5.heap.size, 0, none⟩ 1 1 [.int .i32 z, .int .u32 (sc : Int), .slice xa n xc] (by rfl) (by rfl) (World.news_of_block (cs := #[.int .i32 z, .int .u32 (sc : Int), .slice xa n xc]) (t := 72) (fr := (0, 0)) (heap_alloc_new v5 _)) (by simp [Value.oneCell']) (by omega) (by unfold maxLen; omega) (by omega) (by have := S5.out; simp; omega) (v5.heap.size + 1) (by simp) ?_; intro gg cap w1 hown1 hgrow hat hlt1; have O1 : Hid (w1.ownsRow w.heap.size 72 3 (.slice (some ⟨gg, 0, none⟩) (k + 1) cap) (k + 1) (gflat (Pg.greads b n d l) A C k ++ [.int .i32 z, .int .u32 (sc : Int), .slice xa n xc])) := hown1; have HAT : Hid ((Value.slice x7 k e7).ownBlock = some gg ∨ gg = v5.heap.size + 1) := hat; have G1 : Hid ((v5.alloc (.cells #[.int .i32 z, .int .u32 (sc : Int), .slice xa n xc] 72)).grownBy w1 (Value.slice x7 k e7).ownBlock) := hgrow; clear hown1 hgrow hat))
                    go_roundw
                    case rel =>
                      have hs5 := B5.out.size
                      have hs2 := G1.out.size
                      rw [show (v5.alloc (.cells #[.int .i32 z, .int .u32 (sc : Int), .slice xa n xc] 72)).heap.size = v5.heap.size + 1 by simp] at hs2
                      have hGe := GE.out
                      have hGw := GW.out
                      have own7 : ∀ g, (Value.slice x7 k e7).ownBlock = some g → g < G := fun g hg => by have := (HO.out.lt g hg).2; omega
                      have b25 : Below G u2 v5 := B0.out.trans (B5.out.mono (by omega))
                      refine ⟨k + 1, tj, fun j => if j = k then xa else A j, fun j => if j = k then xc else C j, by omega, rfl, by rw [EL2.out]; exact TJ.out, by go_num, by rw [gflat_snoc EGR.out CL.out]; exact O1.out, fun j hj => ?_, ?_, by rw [EG2.out, HZ1.out]⟩
                      · by_cases e : j = k
                        · subst e
                          dsimp only
                          rw [if_pos rfl, EGR.out]
                          refine ⟨((LC.out.keep B5.out).keep (box_below _ _)).grown G1.out (fun x ex h => by have := own7 _ h.symm; have := (XG.out x ex).1; omega), fun x ex => ?_⟩
                          have q1 := XG.out x ex
                          refine ⟨?_, by omega, by omega⟩
                          intro e
                          have e' : x.block = gg := by injection e
                          rcases HAT.out with h | h
                          · have := own7 _ h; omega
                          · omega
                        · dsimp only
                          rw [if_neg e]
                          obtain ⟨l1, l2⟩ := HA.out j (by omega)
                          have l1' : Lst .i64 v5 (A j) (Pg.gc (Pg.nth (Pg.greads b n d l) j)) := l1.keep (by rw [GE.out]; exact b25)
                          refine ⟨(l1'.keep (box_below _ _)).grown G1.out (fun x ex => (l2 x ex).1), fun x ex => ?_⟩
                          obtain ⟨q1, q2, q3⟩ := l2 x ex
                          refine ⟨?_, by omega, q3⟩
                          intro e
                          have e' : x.block = gg := by injection e
                          rcases HAT.out with h | h
                          · exact q1 (by rw [h, e'])
                          · omega
                      · exact ((HB.out.trans (b25.mono (by omega))).alloc (by omega) _).grown G1.out (by simp; omega) (fun q hq => (HO.out.lt q hq).1)
                    case measure => simp [intOf]; omega
                  · have t0 : (e1 != 0) = true := by simpa using hz
                    have NZ : Hid (¬ e1 = 0) := hz
                    clear hz
                    go_wp2_with (go_at_call 33; refine (refRightGm z (sc : Int) xa n xc b s cd e1 _ CL.out LC.out ST.out (by omega) (by omega) (by omega) (by omega) EE1.out).mono ?_; rintro r v5 ⟨rfl, hb⟩; have B5 : Hid (Below wr.heap.size wr v5) := hb; clear hb)
                    go_ret3
                    have e2 : e1 = e := Pg.gerrN_here HE.out hlt EG2.out NZ.out
                    subst e2
                    have hGe := GE.out
                    have hGw := GW.out
                    exact ⟨HB.out.trans ((B0.out.trans (B5.out.mono (by omega))).mono (by omega)), fun _ => ⟨_, rfl⟩, fun h => absurd h NZ.out⟩
            · go_wp2_with (first
                | (go_at_call 80; refine (refWords_anym n b N OK.out (by omega) EN.out _).mono ?_; rintro e w' ⟨rfl, hw⟩; cases hw.symm; clear hw)
                | (go_at_call 82; refine (refRest_anym va N vc n b ws true OK.out (by omega) _ WL.out LW.out WD.out EN.out EQ.out).mono ?_; rintro e w' ⟨rfl, hw⟩; cases hw.symm; clear hw))
              go_ret3
              have e2 : (10 : Int) = e := Pg.gerrN_here HE.out hlt EG.out (by decide)
              subst e2
              exact ⟨HB.out.trans (by rw [← GE.out] at B3; exact B3.out.mono hsz), fun _ => ⟨_, rfl⟩, fun h => absurd h (by decide)⟩
    · have ek : k = d := by omega
      subst ek
      have z0 : e = 0 := by rw [← HE.out, HZ.out]
      have et : tk = t2 := by rw [← TK.out]; exact HT2.out
      subst et
      go_wp2
      go_ret3
      refine ⟨HB.out, fun h => absurd z0 h, fun _ => ?_⟩
      refine ⟨x7, e7, rfl, fun F hF => ?_⟩
      obtain ⟨a', c', h1', h2'⟩ := gps_of_own (w := F) (own3_at HO.out fun g hg => hF g (HO.out.lt g hg).1 (HO.out.lt g hg).2) (Pg.greads_length _ _ _ _).symm (fun i hi => by
        obtain ⟨l1, l2⟩ := HA.out i (by rw [Pg.greads_length] at hi; exact hi)
        intro j hj
        obtain ⟨b', o', e', hc⟩ := l1 j hj
        refine ⟨b', o', e', ?_⟩
        obtain ⟨_, q2, q3⟩ := l2 ⟨b', o', none⟩ e'
        rw [World.cell?_of_block (hF b' q3 q2)]
        exact hc)
      cases h1'
      exact h2'
end Go.Proofs.YtimkfkolkplpdaaGreat
/- The document's own Parse of a page (layer 8). -/
namespace Go.Proofs.YtimkfkolkplpdaaGreat
set_option linter.unusedVariables false
open Go.RowKit
attribute [local go_sem ↓] Go.wp_at_zero Go.wp_at_succ

theorem below_set9 {B P : Nat} {w v : World} (h : Below B w v) (hP : B ≤ P) (y0 y1 y2 y3 y4 y5 y6 y7 y8 : Value) : Below B w (((((((((v.setCell ⟨P, 0, none⟩ y0).setCell ⟨P, 1, none⟩ y1).setCell ⟨P, 2, none⟩ y2).setCell ⟨P, 3, none⟩ y3).setCell ⟨P, 4, none⟩ y4).setCell ⟨P, 5, none⟩ y5).setCell ⟨P, 6, none⟩ y6).setCell ⟨P, 7, none⟩ y7).setCell ⟨P, 8, none⟩ y8) :=
  ((((((((h.setCell (p := ⟨P, 0, none⟩) hP y0).setCell (p := ⟨P, 1, none⟩) hP y1).setCell (p := ⟨P, 2, none⟩) hP y2).setCell (p := ⟨P, 3, none⟩) hP y3).setCell (p := ⟨P, 4, none⟩) hP y4).setCell (p := ⟨P, 5, none⟩) hP y5).setCell (p := ⟨P, 6, none⟩) hP y6).setCell (p := ⟨P, 7, none⟩) hP y7).setCell (p := ⟨P, 8, none⟩) hP y8

set_option maxRecDepth 100000 in
set_option maxHeartbeats 1600000 in
theorem refParse_short (t : ByteArray) (w : World) (ht : t.size < 4) :
    Calls Tryz.prog 18 #[.string t] w fun r w' => r = .returned (.tuple #[.agg #[.int .i64 0, .int .i64 0, .int .i64 0, .int .i64 0, .int .i64 0, .int .i64 0, .int .i64 0, .slice none 0 0, .slice none 0 0], .int .i64 16]) ∧ Below w.heap.size w w' := by
  go_enter Tryz.func18, Tryz.ntmps18
  go_wp2_with (go_at_call 50; refine (refOpen_short t ht _).mono ?_; rintro e w' ⟨rfl, hw⟩; cases hw.symm; clear hw)
  refine bodyPost_ret (v := .tuple #[.agg #[.int .i64 0, .int .i64 0, .int .i64 0, .int .i64 0, .int .i64 0, .int .i64 0, .int .i64 0, .slice none 0 0, .slice none 0 0], .int .i64 16]) (by simp [results, Tryz.results18, go_sem]) rfl ⟨rfl, ?_⟩
  exact box_below _ _

set_option maxRecDepth 100000 in
set_option maxHeartbeats 1600000 in
theorem refParse_unsealed (t : ByteArray) (l : List Int) (w : World) (ht : strOfNums l = t) (hn : 4 ≤ l.length) (hl : l.length ≤ 10000) (hb : Sl.Byt l) (ho : Sl.sealed l = false) :
    Calls Tryz.prog 18 #[.string t] w fun r w' => r = .returned (.tuple #[.agg #[.int .i64 0, .int .i64 0, .int .i64 0, .int .i64 0, .int .i64 0, .int .i64 0, .int .i64 0, .slice none 0 0, .slice none 0 0], .int .i64 22]) ∧ Below w.heap.size w w' := by
  go_enter Tryz.func18, Tryz.ntmps18
  go_wp2_with fail
  obtain ⟨u0, hu0⟩ : ∃ u, w.alloc (.cells #[.int .i64 0, .int .i64 0, .int .i64 0, .int .i64 0, .int .i64 0, .int .i64 0, .int .i64 0, .slice none 0 0, .slice none 0 0] 38) = u := ⟨_, rfl⟩
  have U0 : Hid (Below w.heap.size w u0 ∧ u0.rowIs w.heap.size 38 9 z9) := by rw [← hu0]; exact ⟨box_below _ _, z9_alloc w⟩
  rw [hu0]
  clear hu0
  refine (refOpen_bad t l ht hn hl hb ho _).mono ?_
  rintro r v1 ⟨rfl, hb1⟩
  have B1 : Hid (Below w.heap.size w v1) := below_then U0.out.1 hb1
  obtain ⟨z0, z1, z2, z3, z4, z5, z6, z7, z8, fz⟩ := cells_z9 (row_keep U0.out.2 hb1)
  clear hb1 ht hb ho
  go_wp2
  refine bodyPost_ret (v := .tuple #[.agg #[.int .i64 0, .int .i64 0, .int .i64 0, .int .i64 0, .int .i64 0, .int .i64 0, .int .i64 0, .slice none 0 0, .slice none 0 0], .int .i64 22]) (by simp [results, Tryz.results18, go_sem, z0, z1, z2, z3, z4, z5, z6, z7, z8]) rfl ⟨rfl, ?_⟩
  exact below_set9 B1.out (Nat.le_refl _) _ _ _ _ _ _ _ _ _
/-- A text's byte. -/
theorem Sl.byte_at {l : List Int} {t : ByteArray} (h : strOfNums l = t) (hb : Sl.Byt l) {i : Nat} (hi : i < t.size) : ((t[i].toNat : Nat) : Int) = Ls.nth l i := by
  subst h
  have hi2 : i < l.length := by rw [strOfNums_size] at hi; exact hi
  have := Sl.text_at hb hi2
  have b := hb i
  rw [this]
  omega
theorem Pg.pkeys_eq {o : List Int} {m0 m1 n0 d0 : Nat} {h4 h5 h6 : Int} (hh : Pg.hread o = [(m0 : Int), m1, n0, d0, h4, h5, h6]) : Pg.pkeys o = Pg.greads m0 n0 d0 (o.drop 9) := by unfold Pg.pkeys; rw [hh]; rfl
theorem Pg.pvals_eq {o : List Int} {m0 m1 n0 d0 : Nat} {h4 h5 h6 : Int} (hh : Pg.hread o = [(m0 : Int), m1, n0, d0, h4, h5, h6]) : Pg.pvals o = Pg.greads m1 d0 n0 ((o.drop 9).drop (Pg.gsize m0 n0 * d0)) := by unfold Pg.pvals; rw [hh, List.drop_drop]; rfl
/-- The cells of a page whose first k numbers are read. -/
def hcell (o : List Int) (k i : Nat) : Value := if i < k then .int .i64 (Ls.nth o (i + 1)) else z9 i
theorem hcell_zero (o : List Int) (i : Nat) : hcell o 0 i = z9 i := by unfold hcell; simp
theorem hcell_set (o : List Int) (k : Nat) {y : Int} (hy : y = Ls.nth o (k + 1)) (j : Nat) : (if j = k then .int .i64 y else hcell o k j) = hcell o (k + 1) j := by
  unfold hcell
  by_cases e : j = k
  · subst e; rw [if_pos rfl, if_pos (by omega), hy]
  · rw [if_neg e]
    by_cases c : j < k
    · rw [if_pos c, if_pos (by omega)]
    · rw [if_neg c, if_neg (by omega)]
set_option maxRecDepth 100000 in
set_option maxHeartbeats 3200000 in
theorem refParse_hshort (t : ByteArray) (l o : List Int) (w : World) (ht : strOfNums l = t) (hn : 4 ≤ l.length) (hl : l.length ≤ 10000) (hb : Sl.Byt l) (ho : Sl.sealed l = true) (eo : l.take (l.length - 4) = o) (h9 : o.length < 9) :
    Calls Tryz.prog 18 #[.string t] w fun r w' => r = .returned (.tuple #[.agg #[.int .i64 0, .int .i64 0, .int .i64 0, .int .i64 0, .int .i64 0, .int .i64 0, .int .i64 0, .slice none 0 0, .slice none 0 0], .int .i64 16]) ∧ Below w.heap.size w w' := by
  obtain ⟨s3, es3⟩ : ∃ s3, strOfNums (l.take (l.length - 4)) = s3 := ⟨_, rfl⟩
  have S3 : Hid (strOfNums o = s3) := by show _ = _; rw [← eo]; exact es3
  have zo : s3.size = o.length := Sl.cut_size S3.out
  have lo : o.length + 4 = l.length := by rw [← eo, List.length_take]; omega
  have BO : Hid (Sl.Byt o) := by show Sl.Byt o; rw [← eo]; exact Pg.byt_take hb _
  have OP : Hid (∀ v, Calls Tryz.prog 50 #[.string t] v fun e w' => e = .returned (.tuple #[.string s3, .int .i64 0]) ∧ Below v.heap.size v w') := fun v => refOpen_ok t l s3 ht hn hl hb es3 ho v
  have zs : s3.size < 9 := by omega
  clear ht hb ho eo es3 zo lo hn hl h9
  go_enter Tryz.func18, Tryz.ntmps18
  go_wp2_with fail
  obtain ⟨u0, hu0⟩ : ∃ u, w.alloc (.cells #[.int .i64 0, .int .i64 0, .int .i64 0, .int .i64 0, .int .i64 0, .int .i64 0, .int .i64 0, .slice none 0 0, .slice none 0 0] 38) = u := ⟨_, rfl⟩
  have U0 : Hid (Below w.heap.size w u0 ∧ u0.rowIs w.heap.size 38 9 z9) := by rw [← hu0]; exact ⟨box_below _ _, z9_alloc w⟩
  rw [hu0]
  clear hu0
  refine (OP.out _).mono ?_
  rintro r v1 ⟨rfl, hb1⟩
  have B1 : Hid (Below w.heap.size w v1) := below_then U0.out.1 hb1
  have Z1 : Hid (v1.rowIs w.heap.size 38 9 z9) := row_keep U0.out.2 hb1
  clear hb1
  obtain ⟨z0, z1, z2, z3, z4, z5, z6, z7, z8, fz⟩ := cells_z9 (Z1.out)
  go_wp2
  refine bodyPost_ret (v := .tuple #[.agg #[.int .i64 0, .int .i64 0, .int .i64 0, .int .i64 0, .int .i64 0, .int .i64 0, .int .i64 0, .slice none 0 0, .slice none 0 0], .int .i64 16]) (by simp [results, Tryz.results18, go_sem, z0, z1, z2, z3, z4, z5, z6, z7, z8]) rfl ⟨rfl, ?_⟩
  exact below_set9 B1.out (Nat.le_refl _) _ _ _ _ _ _ _ _ _
set_option maxRecDepth 100000 in
set_option maxHeartbeats 3200000 in
theorem refParse_form (t : ByteArray) (l o : List Int) (w : World) (ht : strOfNums l = t) (hn : 4 ≤ l.length) (hl : l.length ≤ 10000) (hb : Sl.Byt l) (ho : Sl.sealed l = true) (eo : l.take (l.length - 4) = o) (h9 : 9 ≤ o.length) (h0 : ¬ Ls.nth o 0 = 75) :
    Calls Tryz.prog 18 #[.string t] w fun r w' => r = .returned (.tuple #[.agg #[.int .i64 0, .int .i64 0, .int .i64 0, .int .i64 0, .int .i64 0, .int .i64 0, .int .i64 0, .slice none 0 0, .slice none 0 0], .int .i64 10]) ∧ Below w.heap.size w w' := by
  obtain ⟨s3, es3⟩ : ∃ s3, strOfNums (l.take (l.length - 4)) = s3 := ⟨_, rfl⟩
  have S3 : Hid (strOfNums o = s3) := by show _ = _; rw [← eo]; exact es3
  have zo : s3.size = o.length := Sl.cut_size S3.out
  have lo : o.length + 4 = l.length := by rw [← eo, List.length_take]; omega
  have BO : Hid (Sl.Byt o) := by show Sl.Byt o; rw [← eo]; exact Pg.byt_take hb _
  have OP : Hid (∀ v, Calls Tryz.prog 50 #[.string t] v fun e w' => e = .returned (.tuple #[.string s3, .int .i64 0]) ∧ Below v.heap.size v w') := fun v => refOpen_ok t l s3 ht hn hl hb es3 ho v
  have zs : 9 ≤ s3.size := by omega
  have zs2 : s3.size ≤ 10000 := by omega
  have zp : 0 < s3.size := by omega
  obtain ⟨a0, ea0⟩ : ∃ y : Nat, s3[0].toNat = y := ⟨_, rfl⟩
  have g0 : ((a0 : Int) != 75) = true := by
    have := Sl.byte_at S3.out BO.out zp
    rw [ea0] at this
    rw [this]
    simpa using h0
  clear ht hb ho eo es3 zo lo hn hl h9 h0
  go_enter Tryz.func18, Tryz.ntmps18
  go_wp2_with fail
  obtain ⟨u0, hu0⟩ : ∃ u, w.alloc (.cells #[.int .i64 0, .int .i64 0, .int .i64 0, .int .i64 0, .int .i64 0, .int .i64 0, .int .i64 0, .slice none 0 0, .slice none 0 0] 38) = u := ⟨_, rfl⟩
  have U0 : Hid (Below w.heap.size w u0 ∧ u0.rowIs w.heap.size 38 9 z9) := by rw [← hu0]; exact ⟨box_below _ _, z9_alloc w⟩
  rw [hu0]
  clear hu0
  refine (OP.out _).mono ?_
  rintro r v1 ⟨rfl, hb1⟩
  have B1 : Hid (Below w.heap.size w v1) := below_then U0.out.1 hb1
  have Z1 : Hid (v1.rowIs w.heap.size 38 9 z9) := row_keep U0.out.2 hb1
  clear hb1
  obtain ⟨z0, z1, z2, z3, z4, z5, z6, z7, z8, fz⟩ := cells_z9 (Z1.out)
  go_wp2
  refine bodyPost_ret (v := .tuple #[.agg #[.int .i64 0, .int .i64 0, .int .i64 0, .int .i64 0, .int .i64 0, .int .i64 0, .int .i64 0, .slice none 0 0, .slice none 0 0], .int .i64 10]) (by simp [results, Tryz.results18, go_sem, z0, z1, z2, z3, z4, z5, z6, z7, z8]) rfl ⟨rfl, ?_⟩
  exact below_set9 B1.out (Nat.le_refl _) _ _ _ _ _ _ _ _ _
set_option maxRecDepth 100000 in
set_option maxHeartbeats 3200000 in
theorem refParse_any (t : ByteArray) (l o : List Int) (w : World) (ht : strOfNums l = t) (hn : 4 ≤ l.length) (hl : l.length ≤ 10000) (hb : Sl.Byt l) (ho : Sl.sealed l = true) (eo : l.take (l.length - 4) = o) (h0 h1 h2 h3 h4 h5 h6 e : Int) (h9 : 9 ≤ o.length) (h75 : Ls.nth o 0 = 75) (hh : Pg.hread o = [h0, h1, h2, h3, h4, h5, h6]) (he : Pg.perr o l.length = e) :
    Calls Tryz.prog 18 #[.string t] w fun r w' => Below w.heap.size w w' ∧ (¬ e = 0 → r = .returned (.tuple #[.agg #[.int .i64 0, .int .i64 0, .int .i64 0, .int .i64 0, .int .i64 0, .int .i64 0, .int .i64 0, .slice none 0 0, .slice none 0 0], .int .i64 e])) ∧
      (e = 0 → ∃ a1 k1 c1 a2 k2 c2, r = .returned (.tuple #[.agg #[.int .i64 h0, .int .i64 h1, .int .i64 h2, .int .i64 h3, .int .i64 h4, .int .i64 h5, .int .i64 h6, .slice a1 k1 c1, .slice a2 k2 c2], .int .i64 0]) ∧ k1 = (Pg.pkeys o).length ∧ k2 = (Pg.pvals o).length ∧ Gps w' a1 (Pg.pkeys o) ∧ Gps w' a2 (Pg.pvals o)) := by
  obtain ⟨s3, es3⟩ : ∃ s3, strOfNums (l.take (l.length - 4)) = s3 := ⟨_, rfl⟩
  have S3 : Hid (strOfNums o = s3) := by show _ = _; rw [← eo]; exact es3
  have zo : s3.size = o.length := Sl.cut_size S3.out
  have lo : o.length + 4 = l.length := by rw [← eo, List.length_take]; omega
  have BO : Hid (Sl.Byt o) := by show Sl.Byt o; rw [← eo]; exact Pg.byt_take hb _
  have OP : Hid (∀ v, Calls Tryz.prog 50 #[.string t] v fun e w' => e = .returned (.tuple #[.string s3, .int .i64 0]) ∧ Below v.heap.size v w') := fun v => refOpen_ok t l s3 ht hn hl hb es3 ho v
  have zs : 9 ≤ s3.size := by omega
  have zs2 : s3.size ≤ 10000 := by omega
  have zp : 0 < s3.size := by omega
  have ea0 : s3[0].toNat = 75 := by
    have := Sl.byte_at S3.out BO.out zp
    rw [h75] at this
    omega
  have hh2 := hh
  unfold Pg.hread at hh2
  simp only [List.cons.injEq, and_true] at hh2
  obtain ⟨n0, n1, n2, n3, n4, n5, n6⟩ := hh2
  have NN : Hid (Ls.nth o 1 = h0 ∧ Ls.nth o 2 = h1 ∧ Ls.nth o 3 = h2 ∧ Ls.nth o 4 = h3 ∧ Ls.nth o 5 = h4 ∧ Ls.nth o 6 = h5) := ⟨n0, n1, n2, n3, n4, n5⟩
  obtain ⟨y6, ey6⟩ : ∃ y : Nat, Sl.num ((o.drop 7).take 2) = y := ⟨_, rfl⟩
  have N6 : Hid ((y6 : Int) = h6) := by show _ = _; rw [← ey6]; exact n6
  have EY6 : Hid (Sl.num ((o.drop 7).take 2) = y6) := ey6
  have y6b : y6 < 65536 := by
    rw [← ey6]
    exact Nat.lt_of_lt_of_le (Sl.numN_lt (Pg.byt_take (Pg.byt_drop BO.out 7) 2) _) (Nat.le_trans (Nat.pow_le_pow_right (by decide) (show ((o.drop 7).take 2).length ≤ 2 by simp; omega)) (by decide))
  obtain ⟨p7, ep7⟩ : ∃ y, strOfNums ((o.drop 7).take 2) = y := ⟨_, rfl⟩
  have x7 : s3.extract 7 9 = p7 := by rw [Sl.cut_mid S3.out 7 9 (by omega), List.drop_take]; exact ep7
  have P7 : Hid (strOfNums ((o.drop 7).take 2) = p7) := ep7
  have L7 : Hid (((o.drop 7).take 2).length ≤ 8) := by show _ ≤ _; simp; omega
  have HH : Hid (Pg.hread o = [h0, h1, h2, h3, h4, h5, h6]) := hh
  have HE : Hid (Pg.perr o l.length = e) := he
  have H75 : Hid (Ls.nth o 0 = 75 ∧ 9 ≤ o.length) := ⟨h75, h9⟩
  have zt : t.size = l.length := Sl.cut_size ht
  have ZT : Hid (t.size = l.length ∧ s3.size = o.length ∧ o.length + 4 = l.length) := ⟨zt, zo, lo⟩
  have ztb : t.size ≤ 10000 := by omega
  clear ht hb ho eo es3 zo lo hn hl h9 h75 hh he n0 n1 n2 n3 n4 n5 n6 ey6 ep7 zt
  go_enter Tryz.func18, Tryz.ntmps18
  go_wp2_with fail
  obtain ⟨u0, hu0⟩ : ∃ u, w.alloc (.cells #[.int .i64 0, .int .i64 0, .int .i64 0, .int .i64 0, .int .i64 0, .int .i64 0, .int .i64 0, .slice none 0 0, .slice none 0 0] 38) = u := ⟨_, rfl⟩
  have U0 : Hid (Below w.heap.size w u0 ∧ u0.rowIs w.heap.size 38 9 z9) := by rw [← hu0]; exact ⟨box_below _ _, z9_alloc w⟩
  rw [hu0]
  clear hu0
  refine (OP.out _).mono ?_
  rintro r v1 ⟨rfl, hb1⟩
  have B1 : Hid (Below w.heap.size w v1) := below_then U0.out.1 hb1
  have Z1 : Hid (v1.rowIs w.heap.size 38 9 z9) := row_keep U0.out.2 hb1
  clear hb1
  go_wp2
  obtain ⟨M, eM⟩ : ∃ M, v1.heap.size = M := ⟨_, rfl⟩
  have EM : Hid (v1.heap.size = M) := eM
  clear eM
  go_loopw [7] (fun i wr => ∃ k : Nat, k ≤ 6 ∧ i = .int .i64 k ∧ wr.rowIs v1.heap.size 38 9 (hcell o k) ∧ Below v1.heap.size v1 wr) (fun i _ => 6 - (intOf i).toNat)
  case atStart => exact ⟨0, Nat.zero_le _, rfl, (z9_alloc v1).congr (fun i _ => (hcell_zero o i).symm), box_below _ _⟩
  case round =>
    obtain ⟨k, hk, rfl, hrow, hbel⟩ := hrel
    have R0 : Hid (wr.rowIs v1.heap.size 38 9 (hcell o k)) := hrow
    have W0 : Hid (Below v1.heap.size v1 wr) := hbel
    clear hrow hbel
    by_cases hlt : k < 6
    · have hi1 : k + 1 < s3.size := by omega
      obtain ⟨y, ey⟩ : ∃ y : Nat, s3[k + 1].toNat = y := ⟨_, rfl⟩
      have EY : Hid ((y : Int) = Ls.nth o (k + 1)) := by
        show _ = _
        rw [← ey]
        exact Sl.byte_at S3.out BO.out hi1
      have hyb : y < 256 := by have := EY.out; have := BO.out (k + 1); omega
      have c0 : wr.cell? ⟨v1.heap.size, k, none⟩ = some (.int .i64 0) := by rw [R0.out.cell (show k < 9 by omega)]; unfold hcell z9; rw [if_neg (by omega), if_pos (by omega)]
      have f0 := R0.out.frozen k
      have e1 : (0 : Int) ≤ (k : Int) + 1 := by omega
      have e2 : (k : Int) + 1 < (s3.size : Int) := by omega
      go_wp2
      go_roundw
      case rel => exact ⟨k + 1, by omega, by go_num, (R0.out.set k _).congr (fun j _ => hcell_set o k EY.out j), W0.out.setCell (p := ⟨v1.heap.size, k, none⟩) (Nat.le_refl _) _⟩
      case measure => simp [intOf]; omega
    · have ek : 6 = k := by omega
      subst ek
      clear hlt hk
      have c6 : wr.cell? ⟨v1.heap.size, 6, none⟩ = some (.int .i64 0) := R0.out.cell (show 6 < 9 by decide)
      have f6 := R0.out.frozen 6
      have c0 : wr.cell? ⟨v1.heap.size, 0, none⟩ = some (.int .i64 h0) := by rw [R0.out.cell (show 0 < 9 by decide)]; show some (Value.int .i64 (Ls.nth o 1)) = _; rw [NN.out.1]
      have c1 : wr.cell? ⟨v1.heap.size, 1, none⟩ = some (.int .i64 h1) := by rw [R0.out.cell (show 1 < 9 by decide)]; show some (Value.int .i64 (Ls.nth o 2)) = _; rw [NN.out.2.1]
      have c2 : wr.cell? ⟨v1.heap.size, 2, none⟩ = some (.int .i64 h2) := by rw [R0.out.cell (show 2 < 9 by decide)]; show some (Value.int .i64 (Ls.nth o 3)) = _; rw [NN.out.2.2.1]
      have c3 : wr.cell? ⟨v1.heap.size, 3, none⟩ = some (.int .i64 h3) := by rw [R0.out.cell (show 3 < 9 by decide)]; show some (Value.int .i64 (Ls.nth o 4)) = _; rw [NN.out.2.2.2.1]
      have c4 : wr.cell? ⟨v1.heap.size, 4, none⟩ = some (.int .i64 h4) := by rw [R0.out.cell (show 4 < 9 by decide)]; show some (Value.int .i64 (Ls.nth o 5)) = _; rw [NN.out.2.2.2.2.1]
      have c5 : wr.cell? ⟨v1.heap.size, 5, none⟩ = some (.int .i64 h5) := by rw [R0.out.cell (show 5 < 9 by decide)]; show some (Value.int .i64 (Ls.nth o 6)) = _; rw [NN.out.2.2.2.2.2]
      go_wp2_with (go_at_call 51; refine (refNumber_any p7 ((o.drop 7).take 2) y6 P7.out L7.out EY6.out _ (Pg.byt_take (Pg.byt_drop BO.out 7) 2)).mono ?_; rintro e w' ⟨rfl, hw⟩; cases hw.symm; clear hw)
      rw [N6.out]
      obtain ⟨v2, hv2⟩ : ∃ u, wr.setCell ⟨v1.heap.size, 6, none⟩ (.int .i64 h6) = u := ⟨_, rfl⟩
      have R2 : Hid (v2.rowIs v1.heap.size 38 9 (pcell #[.int .i64 h0, .int .i64 h1, .int .i64 h2, .int .i64 h3, .int .i64 h4, .int .i64 h5, .int .i64 h6] (.slice none 0 0) (.slice none 0 0))) := by
        rw [← hv2]
        refine (R0.out.set 6 _).congr (fun j hj => ?_)
        obtain ⟨q0, q1, q2, q3, q4, q5⟩ := NN.out
        match j, hj with
        | 0, _ => show Value.int .i64 (Ls.nth o 1) = _; rw [q0]; rfl
        | 1, _ => show Value.int .i64 (Ls.nth o 2) = _; rw [q1]; rfl
        | 2, _ => show Value.int .i64 (Ls.nth o 3) = _; rw [q2]; rfl
        | 3, _ => show Value.int .i64 (Ls.nth o 4) = _; rw [q3]; rfl
        | 4, _ => show Value.int .i64 (Ls.nth o 5) = _; rw [q4]; rfl
        | 5, _ => show Value.int .i64 (Ls.nth o 6) = _; rw [q5]; rfl
        | 6, _ => rfl
        | 7, _ => rfl
        | 8, _ => rfl
      have W2 : Hid (Below v1.heap.size v1 v2) := by rw [← hv2]; exact W0.out.setCell (p := ⟨v1.heap.size, 6, none⟩) (Nat.le_refl _) _
      rw [hv2]
      clear hv2 c0 c1 c2 c3 c4 c5 c6 f6 R0 W0
      obtain ⟨q, eq⟩ : ∃ q, Pg.rightH [h0, h1, h2, h3, h4, h5, h6] = q := ⟨_, rfl⟩
      have EQ : Hid (Pg.rightH [h0, h1, h2, h3, h4, h5, h6] = q) := eq
      clear eq
      refine (refRightH_any _ _ _ _ _ _ _ q EQ.out _).mono ?_
      rintro r v3 ⟨rfl, hb⟩
      have W3 : Hid (Below v1.heap.size v1 v3) := W2.out.trans (hb.mono W2.out.size)
      have R3 : Hid (v3.rowIs v1.heap.size 38 9 (pcell #[.int .i64 h0, .int .i64 h1, .int .i64 h2, .int .i64 h3, .int .i64 h4, .int .i64 h5, .int .i64 h6] (.slice none 0 0) (.slice none 0 0))) := row_keep R2.out hb
      clear hb
      clear W2 R2
      cases q
      · have HE2 : Hid (Pg.perr o l.length = e) := HE.out
        have EV : Hid (Pg.perr o l.length = 11) := by
          show _ = _
          unfold Pg.perr
          rw [if_neg (by have := H75.out.2; omega), if_neg (by rw [H75.out.1]; simp), if_pos (by rw [HH.out]; exact EQ.out)]
        have NZ : Hid (¬ (11 : Int) = 0) := by show ¬ _; decide
        have e2 : (11 : Int) = e := by rw [← HE2.out]; exact EV.out.symm
        subst e2
        obtain ⟨z0, z1, z2, z3, z4, z5, z6, z7, z8, fz⟩ := cells_z9 (Z1.out.of_block (W3.out.block _ Z1.out.lt))
        go_wp2
        refine bodyPost_ret (v := .tuple #[.agg #[.int .i64 0, .int .i64 0, .int .i64 0, .int .i64 0, .int .i64 0, .int .i64 0, .int .i64 0, .slice none 0 0, .slice none 0 0], .int .i64 11]) (by simp [results, Tryz.results18, go_sem, z0, z1, z2, z3, z4, z5, z6, z7, z8]) rfl ⟨?_, fun _ => rfl, fun h => absurd h NZ.out⟩
        exact below_set9 (B1.out.trans (W3.out.mono B1.out.size)) (Nat.le_refl _) _ _ _ _ _ _ _ _ _
      obtain ⟨m0, m1, n0, d0, rfl, rfl, rfl, rfl⟩ := Pg.right_nats EQ.out
      obtain ⟨qa, qb, qc, qd, qe, qf, _⟩ := Pg.rightH_all EQ.out
      obtain ⟨s0, st0⟩ := Pg.okB_nat (m := m0) qa
      obtain ⟨s1, st1⟩ := Pg.okB_nat (m := m1) qb
      have l1 : 1 ≤ n0 := by have : (1 : Int) ≤ n0 := qc; omega
      have l2 : n0 ≤ 16 := by have : (n0 : Int) ≤ 16 := qd; omega
      have l3 : 1 ≤ d0 := by have : (1 : Int) ≤ d0 := qe; omega
      have l4 : d0 ≤ 16 := by have : (d0 : Int) ≤ 16 := qf; omega
      have ST0 : Hid (Gp.St m0 s0) := st0
      have ST1 : Hid (Gp.St m1 s1) := st1
      obtain ⟨N, eN⟩ : ∃ N, Pg.psize [(m0 : Int), m1, n0, d0, h4, h5, h6] = N := ⟨_, rfl⟩
      have HNN : Hid (9 + Pg.gsize m0 n0 * d0 + Pg.gsize m1 d0 * n0 + 4 = N) := by show _ = _; rw [← eN]; rfl
      have hN1 : N ≤ 781 := by rw [← eN]; exact Pg.psize_le EQ.out
      obtain ⟨e1, ee1⟩ : ∃ y, Pg.gerrN m0 n0 (o.drop 9) d0 = y := ⟨_, rfl⟩
      obtain ⟨e3, ee3⟩ : ∃ y, Pg.gerrN m1 d0 ((o.drop 9).drop (Pg.gsize m0 n0 * d0)) n0 = y := ⟨_, rfl⟩
      have HE2 : Hid ((if t.size < N then 16 else if N < t.size then 17 else if ¬ e1 = 0 then e1 else e3) = e) := by
        show _ = _
        rw [← HE.out, Pg.perr_right H75.out.2 H75.out.1 HH.out EQ.out, eN, ee1, ee3, ZT.out.1]
      have EE1 : Hid (Pg.gerrN m0 n0 (o.drop 9) d0 = e1) := ee1
      have EE3 : Hid (Pg.gerrN m1 d0 ((o.drop 9).drop (Pg.gsize m0 n0 * d0)) n0 = e3) := ee3
      clear qa qb qc qd qe qf st0 st1 eN ee1 ee3
      have x0 : v3.cell? ⟨v1.heap.size, 0, none⟩ = some (.int .i64 (m0 : Int)) := R3.out.cell (show 0 < 9 by decide)
      have x1 : v3.cell? ⟨v1.heap.size, 1, none⟩ = some (.int .i64 (m1 : Int)) := R3.out.cell (show 1 < 9 by decide)
      have x2 : v3.cell? ⟨v1.heap.size, 2, none⟩ = some (.int .i64 (n0 : Int)) := R3.out.cell (show 2 < 9 by decide)
      have x3 : v3.cell? ⟨v1.heap.size, 3, none⟩ = some (.int .i64 (d0 : Int)) := R3.out.cell (show 3 < 9 by decide)
      have x4 : v3.cell? ⟨v1.heap.size, 4, none⟩ = some (.int .i64 h4) := R3.out.cell (show 4 < 9 by decide)
      have x5 : v3.cell? ⟨v1.heap.size, 5, none⟩ = some (.int .i64 h5) := R3.out.cell (show 5 < 9 by decide)
      have x6 : v3.cell? ⟨v1.heap.size, 6, none⟩ = some (.int .i64 h6) := R3.out.cell (show 6 < 9 by decide)
      go_wp2_with fail
      refine (refSizeP_any m0 m1 n0 d0 h4 h5 h6 N _ (St.ok ST0.out) (St.ok ST1.out) l2 l4 HNN.out).mono ?_
      rintro r v4 ⟨rfl, hb⟩
      clear x0 x1 x2 x3 x4 x5 x6
      have W4 : Hid (Below v1.heap.size v1 v4) := W3.out.trans (hb.mono W3.out.size)
      have R4 : Hid (v4.rowIs v1.heap.size 38 9 (pcell #[.int .i64 (m0 : Int), .int .i64 (m1 : Int), .int .i64 (n0 : Int), .int .i64 (d0 : Int), .int .i64 h4, .int .i64 h5, .int .i64 h6] (.slice none 0 0) (.slice none 0 0))) := row_keep R3.out hb
      clear hb
      clear W3 R3
      by_cases sm1 : t.size < N
      · have EV : Hid ((if t.size < N then 16 else if N < t.size then 17 else if ¬ e1 = 0 then e1 else e3) = 16) := if_pos sm1
        have NZ : Hid (¬ (16 : Int) = 0) := by show ¬ _; decide
        have e2 : (16 : Int) = e := by rw [← HE2.out]; exact EV.out.symm
        subst e2
        obtain ⟨z0, z1, z2, z3, z4, z5, z6, z7, z8, fz⟩ := cells_z9 (Z1.out.of_block (W4.out.block _ Z1.out.lt))
        go_wp2
        refine bodyPost_ret (v := .tuple #[.agg #[.int .i64 0, .int .i64 0, .int .i64 0, .int .i64 0, .int .i64 0, .int .i64 0, .int .i64 0, .slice none 0 0, .slice none 0 0], .int .i64 16]) (by simp [results, Tryz.results18, go_sem, z0, z1, z2, z3, z4, z5, z6, z7, z8]) rfl ⟨?_, fun _ => rfl, fun h => absurd h NZ.out⟩
        exact below_set9 (B1.out.trans (W4.out.mono B1.out.size)) (Nat.le_refl _) _ _ _ _ _ _ _ _ _
      have x0 : v4.cell? ⟨v1.heap.size, 0, none⟩ = some (.int .i64 (m0 : Int)) := R4.out.cell (show 0 < 9 by decide)
      have x1 : v4.cell? ⟨v1.heap.size, 1, none⟩ = some (.int .i64 (m1 : Int)) := R4.out.cell (show 1 < 9 by decide)
      have x2 : v4.cell? ⟨v1.heap.size, 2, none⟩ = some (.int .i64 (n0 : Int)) := R4.out.cell (show 2 < 9 by decide)
      have x3 : v4.cell? ⟨v1.heap.size, 3, none⟩ = some (.int .i64 (d0 : Int)) := R4.out.cell (show 3 < 9 by decide)
      have x4 : v4.cell? ⟨v1.heap.size, 4, none⟩ = some (.int .i64 h4) := R4.out.cell (show 4 < 9 by decide)
      have x5 : v4.cell? ⟨v1.heap.size, 5, none⟩ = some (.int .i64 h5) := R4.out.cell (show 5 < 9 by decide)
      have x6 : v4.cell? ⟨v1.heap.size, 6, none⟩ = some (.int .i64 h6) := R4.out.cell (show 6 < 9 by decide)
      go_wp2_with fail
      refine (refSizeP_any m0 m1 n0 d0 h4 h5 h6 N _ (St.ok ST0.out) (St.ok ST1.out) l2 l4 HNN.out).mono ?_
      rintro r v5 ⟨rfl, hb⟩
      clear x0 x1 x2 x3 x4 x5 x6
      have W5 : Hid (Below v1.heap.size v1 v5) := W4.out.trans (hb.mono W4.out.size)
      have R5 : Hid (v5.rowIs v1.heap.size 38 9 (pcell #[.int .i64 (m0 : Int), .int .i64 (m1 : Int), .int .i64 (n0 : Int), .int .i64 (d0 : Int), .int .i64 h4, .int .i64 h5, .int .i64 h6] (.slice none 0 0) (.slice none 0 0))) := row_keep R4.out hb
      clear hb
      clear W4 R4
      by_cases sm2 : N < t.size
      · have EV : Hid ((if t.size < N then 16 else if N < t.size then 17 else if ¬ e1 = 0 then e1 else e3) = 17) := by show _ = _; rw [if_neg sm1, if_pos sm2]
        have NZ : Hid (¬ (17 : Int) = 0) := by show ¬ _; decide
        have e2 : (17 : Int) = e := by rw [← HE2.out]; exact EV.out.symm
        subst e2
        obtain ⟨z0, z1, z2, z3, z4, z5, z6, z7, z8, fz⟩ := cells_z9 (Z1.out.of_block (W5.out.block _ Z1.out.lt))
        go_wp2
        refine bodyPost_ret (v := .tuple #[.agg #[.int .i64 0, .int .i64 0, .int .i64 0, .int .i64 0, .int .i64 0, .int .i64 0, .int .i64 0, .slice none 0 0, .slice none 0 0], .int .i64 17]) (by simp [results, Tryz.results18, go_sem, z0, z1, z2, z3, z4, z5, z6, z7, z8]) rfl ⟨?_, fun _ => rfl, fun h => absurd h NZ.out⟩
        exact below_set9 (B1.out.trans (W5.out.mono B1.out.size)) (Nat.le_refl _) _ _ _ _ _ _ _ _ _
      have sN : t.size = N := by omega
      obtain ⟨G1, eG1⟩ : ∃ G1, Pg.gsize m0 n0 * d0 = G1 := ⟨_, rfl⟩
      obtain ⟨G2, eG2⟩ : ∃ G2, Pg.gsize m1 d0 * n0 = G2 := ⟨_, rfl⟩
      have lsum : 9 + G1 + G2 = o.length := by have h1 := HNN.out; have h2 := ZT.out; rw [eG1, eG2] at h1; omega
      have LK : Hid (Pg.gsize m0 n0 * d0 ≤ (o.drop 9).length) := by show _ ≤ _; rw [List.length_drop, eG1]; omega
      have LV : Hid (Pg.gsize m1 d0 * n0 ≤ ((o.drop 9).drop (Pg.gsize m0 n0 * d0)).length) := by show _ ≤ _; rw [List.length_drop, List.length_drop, eG1, eG2]; omega
      have LL : Hid ((o.drop 9).length ≤ 10000 ∧ ((o.drop 9).drop (Pg.gsize m0 n0 * d0)).length ≤ 10000) := by
        have h2 := ZT.out
        refine ⟨?_, ?_⟩
        · rw [List.length_drop]; omega
        · rw [List.length_drop, List.length_drop]; omega
      obtain ⟨p9, ep9⟩ : ∃ y, strOfNums (o.drop 9) = y := ⟨_, rfl⟩
      obtain ⟨p10, ep10⟩ : ∃ y, strOfNums ((o.drop 9).drop (Pg.gsize m0 n0 * d0)) = y := ⟨_, rfl⟩
      obtain ⟨p11, ep11⟩ : ∃ y, strOfNums (((o.drop 9).drop (Pg.gsize m0 n0 * d0)).drop (Pg.gsize m1 d0 * n0)) = y := ⟨_, rfl⟩
      have x9 : s3.extract 9 s3.size = p9 := by rw [Sl.cut_from S3.out]; exact ep9
      have T9 : Hid (strOfNums (o.drop 9) = p9) := ep9
      have T10 : Hid (strOfNums ((o.drop 9).drop (Pg.gsize m0 n0 * d0)) = p10) := ep10
      have T11 : Hid (strOfNums (((o.drop 9).drop (Pg.gsize m0 n0 * d0)).drop (Pg.gsize m1 d0 * n0)) = p11) := ep11
      have EV : Hid ((if ¬ e1 = 0 then e1 else e3) = e) := by show _ = _; rw [← HE2.out, if_neg sm1, if_neg sm2]
      have zi9 : (9 : Int) ≤ (s3.size : Int) := by omega
      clear eG1 eG2 lsum ep9 ep10 ep11 sN
      by_cases he1 : e1 = 0
      · have HZ1 : Hid (e1 = 0) := he1
        have EV3 : Hid (e3 = e) := by show _ = _; rw [← EV.out, if_neg (by simp [he1])]
        clear he1
        have KS : Hid (∀ w', Below v5.heap.size v5 w' → w'.cell? ⟨v1.heap.size, 0, none⟩ = some (.int .i64 (m0 : Int)) ∧ w'.cell? ⟨v1.heap.size, 2, none⟩ = some (.int .i64 (n0 : Int)) ∧ w'.cell? ⟨v1.heap.size, 3, none⟩ = some (.int .i64 (d0 : Int))) := fun w' hb => ⟨(row_keep R5.out hb).cell (show 0 < 9 by decide), (row_keep R5.out hb).cell (show 2 < 9 by decide), (row_keep R5.out hb).cell (show 3 < 9 by decide)⟩
        have KSS : Hid (∀ (w' : World) (X : Value), Below v5.heap.size v5 w' → (w'.setCell ⟨v1.heap.size, 7, none⟩ X).cell? ⟨v1.heap.size, 0, none⟩ = some (.int .i64 (m0 : Int)) ∧ (w'.setCell ⟨v1.heap.size, 7, none⟩ X).cell? ⟨v1.heap.size, 2, none⟩ = some (.int .i64 (n0 : Int)) ∧ (w'.setCell ⟨v1.heap.size, 7, none⟩ X).cell? ⟨v1.heap.size, 3, none⟩ = some (.int .i64 (d0 : Int))) := fun w' X hb => by
          obtain ⟨q0, q1, q2⟩ := KS.out w' hb
          exact ⟨by rw [World.cell?_setCell_other _ _ _ _ (by simp)]; exact q0, by rw [World.cell?_setCell_other _ _ _ _ (by simp)]; exact q1, by rw [World.cell?_setCell_other _ _ _ _ (by simp)]; exact q2⟩
        have DD : Hid (Below v5.heap.size v5 v5.drew) := (Below.refl v5.heap.size v5).drew
        go_wp2
        go_region_held3 (fun w' => w'.cell? ⟨v1.heap.size, 0, none⟩ = some (.int .i64 (m0 : Int)) ∧ w'.cell? ⟨v1.heap.size, 2, none⟩ = some (.int .i64 (n0 : Int)) ∧ w'.cell? ⟨v1.heap.size, 3, none⟩ = some (.int .i64 (d0 : Int)))
          (first
            | exact KS.out _ DD.out
            | exact KS.out _ y5.out
            | exact KSS.out _ _ y5.out
            | assumption)
          (first
            | (go_at_call 53; refine (refRead_any p9 (o.drop 9) m0 s0 n0 d0 e1 p10 _ T9.out (Pg.byt_drop BO.out 9) LL.out.1 ST0.out l1 l2 l4 LK.out EE1.out T10.out).mono ?_; rintro r v6 ⟨hb, hbad, hok⟩; obtain ⟨a1, c1, rfl, hg⟩ := hok HZ1.out; have GK : Hid (∀ F : World, (∀ g, v5.heap.size ≤ g → g < v6.heap.size → F.heap[g]? = v6.heap[g]?) → Gps F a1 (Pg.greads m0 n0 d0 (o.drop 9))) := hg; clear hg; have y5 : Hid (Below v5.heap.size v5 v6) := below_then DD.out hb; have x7 : v6.cell? ⟨v1.heap.size, 7, none⟩ = some (.slice none 0 0) := (row_keep R5.out y5.out).cell (show 7 < 9 by decide); have f7 := (row_keep R5.out y5.out).frozen 7; clear hb hbad hok))
        obtain ⟨v7, hv⟩ : ∃ u, v6.setCell ⟨v1.heap.size, 7, none⟩ (.slice a1 d0 c1) = u := ⟨_, rfl⟩
        have W7 : Hid (Below v1.heap.size v1 v7) := by rw [← hv]; exact (W5.out.trans (y5.out.mono W5.out.size)).setCell (p := ⟨v1.heap.size, 7, none⟩) (Nat.le_refl _) _
        have R7 : Hid (v7.rowIs v1.heap.size 38 9 (pcell #[.int .i64 (m0 : Int), .int .i64 (m1 : Int), .int .i64 (n0 : Int), .int .i64 (d0 : Int), .int .i64 h4, .int .i64 h5, .int .i64 h6] (.slice a1 d0 c1) (.slice none 0 0))) := by rw [← hv]; exact ((row_keep R5.out y5.out).set 7 _).congr (fun j _ => pcell_set7 _ _ _ _ j)
        have O7 : Hid (v7.heap.size = v6.heap.size ∧ ∀ g, ¬ g = v1.heap.size → v7.heap[g]? = v6.heap[g]?) := by rw [← hv]; exact ⟨Go.Deep.nblk_setCell _ _ _, fun g hg => Go.Deep.blk_setCell_other _ ⟨v1.heap.size, 7, none⟩ _ g hg⟩
        rw [hv]
        clear hv x7 f7 KS KSS
        clear DD
        by_cases he3 : e3 = 0
        · have HZ3 : Hid (e3 = 0) := he3
          have HZE : Hid (e = 0) := by show _ = _; rw [← EV3.out]; exact he3
          clear he3
          have x1 : v7.cell? ⟨v1.heap.size, 1, none⟩ = some (.int .i64 (m1 : Int)) := R7.out.cell (show 1 < 9 by decide)
          have x2 : v7.cell? ⟨v1.heap.size, 2, none⟩ = some (.int .i64 (n0 : Int)) := R7.out.cell (show 2 < 9 by decide)
          have x3 : v7.cell? ⟨v1.heap.size, 3, none⟩ = some (.int .i64 (d0 : Int)) := R7.out.cell (show 3 < 9 by decide)
          go_upto_region 24 with (go_at_call 53; refine (refRead_any p10 ((o.drop 9).drop (Pg.gsize m0 n0 * d0)) m1 s1 d0 n0 e3 p11 _ T10.out (Pg.byt_drop (Pg.byt_drop BO.out 9) _) LL.out.2 ST1.out l3 l4 l2 LV.out EE3.out T11.out).mono ?_; rintro r v8 ⟨hb, hbad, hok⟩; obtain ⟨a2, c2, rfl, hg⟩ := hok HZ3.out; have GV : Hid (∀ F : World, (∀ g, v7.heap.size ≤ g → g < v8.heap.size → F.heap[g]? = v8.heap[g]?) → Gps F a2 (Pg.greads m1 d0 n0 ((o.drop 9).drop (Pg.gsize m0 n0 * d0)))) := hg; clear hg; have y7 : Hid (Below v7.heap.size v7 v8) := hb; have x8 : v8.cell? ⟨v1.heap.size, 8, none⟩ = some (.slice none 0 0) := (row_keep R7.out y7.out).cell (show 8 < 9 by decide); have f8 := (row_keep R7.out y7.out).frozen 8; clear hb hbad hok)
          clear x1 x2 x3
          obtain ⟨v9, hv⟩ : ∃ u, v8.setCell ⟨v1.heap.size, 8, none⟩ (.slice a2 n0 c2) = u := ⟨_, rfl⟩
          have W9 : Hid (Below v1.heap.size v1 v9) := by rw [← hv]; exact (W7.out.trans (y7.out.mono W7.out.size)).setCell (p := ⟨v1.heap.size, 8, none⟩) (Nat.le_refl _) _
          have R9 : Hid (v9.rowIs v1.heap.size 38 9 (pcell #[.int .i64 (m0 : Int), .int .i64 (m1 : Int), .int .i64 (n0 : Int), .int .i64 (d0 : Int), .int .i64 h4, .int .i64 h5, .int .i64 h6] (.slice a1 d0 c1) (.slice a2 n0 c2))) := by rw [← hv]; exact ((row_keep R7.out y7.out).set 8 _).congr (fun j _ => pcell_set8 _ _ _ _ j)
          have O9 : Hid (v9.heap.size = v8.heap.size ∧ ∀ g, ¬ g = v1.heap.size → v9.heap[g]? = v8.heap[g]?) := by rw [← hv]; exact ⟨Go.Deep.nblk_setCell _ _ _, fun g hg => Go.Deep.blk_setCell_other _ ⟨v1.heap.size, 8, none⟩ _ g hg⟩
          rw [hv]
          clear hv x8 f8
          obtain ⟨z0, z1, z2, z3, z4, z5, z6, z7, z8, fz⟩ := cells_z9 (Z1.out.of_block (W9.out.block _ Z1.out.lt))
          have x0 : v9.cell? ⟨v1.heap.size, 0, none⟩ = some (.int .i64 (m0 : Int)) := R9.out.cell (show 0 < 9 by decide)
          have x1 : v9.cell? ⟨v1.heap.size, 1, none⟩ = some (.int .i64 (m1 : Int)) := R9.out.cell (show 1 < 9 by decide)
          have x2 : v9.cell? ⟨v1.heap.size, 2, none⟩ = some (.int .i64 (n0 : Int)) := R9.out.cell (show 2 < 9 by decide)
          have x3 : v9.cell? ⟨v1.heap.size, 3, none⟩ = some (.int .i64 (d0 : Int)) := R9.out.cell (show 3 < 9 by decide)
          have x4 : v9.cell? ⟨v1.heap.size, 4, none⟩ = some (.int .i64 h4) := R9.out.cell (show 4 < 9 by decide)
          have x5 : v9.cell? ⟨v1.heap.size, 5, none⟩ = some (.int .i64 h5) := R9.out.cell (show 5 < 9 by decide)
          have x6 : v9.cell? ⟨v1.heap.size, 6, none⟩ = some (.int .i64 h6) := R9.out.cell (show 6 < 9 by decide)
          have x7 : v9.cell? ⟨v1.heap.size, 7, none⟩ = some (.slice a1 d0 c1) := R9.out.cell (show 7 < 9 by decide)
          have x8 : v9.cell? ⟨v1.heap.size, 8, none⟩ = some (.slice a2 n0 c2) := R9.out.cell (show 8 < 9 by decide)
          go_wp2
          refine bodyPost_ret (v := .tuple #[.agg #[.int .i64 (m0 : Int), .int .i64 (m1 : Int), .int .i64 (n0 : Int), .int .i64 (d0 : Int), .int .i64 h4, .int .i64 h5, .int .i64 h6, .slice a1 d0 c1, .slice a2 n0 c2], .int .i64 0]) (by simp [results, Tryz.results18, go_sem, z0, z1, z2, z3, z4, z5, z6, z7, z8]) rfl ⟨?_, fun h => absurd HZE.out h, fun _ => ⟨a1, d0, c1, a2, n0, c2, rfl, ?_, ?_, ?_, ?_⟩⟩
          · exact below_set9 (B1.out.trans (W9.out.mono B1.out.size)) (Nat.le_refl _) _ _ _ _ _ _ _ _ _
          · rw [Pg.pkeys_eq HH.out, Pg.greads_length]
          · rw [Pg.pvals_eq HH.out, Pg.greads_length]
          · rw [Pg.pkeys_eq HH.out]
            have h5 := W5.out.size
            have hR := R5.out.lt
            have hz := Z1.out.lt
            refine GK.out _ (fun g h1 h2 => ?_)
            rw [set9_off _ _ _ _ _ _ _ _ _ _ _ g (by omega), O9.out.2 g (by omega), y7.out.block g (by rw [O7.out.1]; exact h2), O7.out.2 g (by omega)]
          · rw [Pg.pvals_eq HH.out]
            have h5 := W7.out.size
            have hR := R7.out.lt
            have hz := Z1.out.lt
            refine GV.out _ (fun g h1 h2 => ?_)
            rw [set9_off _ _ _ _ _ _ _ _ _ _ _ g (by omega), O9.out.2 g (by omega)]
        · have NE : Hid (¬ e3 = 0) := he3
          have e2 : e3 = e := EV3.out
          subst e2
          have t0 : (e3 != 0) = true := by simpa using he3
          clear he3
          have x1 : v7.cell? ⟨v1.heap.size, 1, none⟩ = some (.int .i64 (m1 : Int)) := R7.out.cell (show 1 < 9 by decide)
          have x2 : v7.cell? ⟨v1.heap.size, 2, none⟩ = some (.int .i64 (n0 : Int)) := R7.out.cell (show 2 < 9 by decide)
          have x3 : v7.cell? ⟨v1.heap.size, 3, none⟩ = some (.int .i64 (d0 : Int)) := R7.out.cell (show 3 < 9 by decide)
          go_upto_region 24 with (go_at_call 53; refine (refRead_any p10 ((o.drop 9).drop (Pg.gsize m0 n0 * d0)) m1 s1 d0 n0 e3 p11 _ T10.out (Pg.byt_drop (Pg.byt_drop BO.out 9) _) LL.out.2 ST1.out l3 l4 l2 LV.out EE3.out T11.out).mono ?_; rintro r v8 ⟨hb, hbad, hok⟩; obtain ⟨t', rfl⟩ := hbad NE.out; have y7 : Hid (Below v7.heap.size v7 v8) := hb; have x8 : v8.cell? ⟨v1.heap.size, 8, none⟩ = some (.slice none 0 0) := (row_keep R7.out y7.out).cell (show 8 < 9 by decide); have f8 := (row_keep R7.out y7.out).frozen 8; clear hb hbad hok)
          clear x1 x2 x3
          obtain ⟨v9, hv⟩ : ∃ u, v8.setCell ⟨v1.heap.size, 8, none⟩ (.slice none 0 0) = u := ⟨_, rfl⟩
          have W9 : Hid (Below v1.heap.size v1 v9) := by rw [← hv]; exact (W7.out.trans (y7.out.mono W7.out.size)).setCell (p := ⟨v1.heap.size, 8, none⟩) (Nat.le_refl _) _
          have R9 : Hid (v9.rowIs v1.heap.size 38 9 (pcell #[.int .i64 (m0 : Int), .int .i64 (m1 : Int), .int .i64 (n0 : Int), .int .i64 (d0 : Int), .int .i64 h4, .int .i64 h5, .int .i64 h6] (.slice a1 d0 c1) (.slice none 0 0))) := by rw [← hv]; exact ((row_keep R7.out y7.out).set 8 _).congr (fun j _ => pcell_set8 _ _ _ _ j)
          have O9 : Hid (v9.heap.size = v8.heap.size ∧ ∀ g, ¬ g = v1.heap.size → v9.heap[g]? = v8.heap[g]?) := by rw [← hv]; exact ⟨Go.Deep.nblk_setCell _ _ _, fun g hg => Go.Deep.blk_setCell_other _ ⟨v1.heap.size, 8, none⟩ _ g hg⟩
          rw [hv]
          clear hv x8 f8
          obtain ⟨z0, z1, z2, z3, z4, z5, z6, z7, z8, fz⟩ := cells_z9 (Z1.out.of_block (W9.out.block _ Z1.out.lt))
          go_wp2
          refine bodyPost_ret (v := .tuple #[.agg #[.int .i64 0, .int .i64 0, .int .i64 0, .int .i64 0, .int .i64 0, .int .i64 0, .int .i64 0, .slice none 0 0, .slice none 0 0], .int .i64 e3]) (by simp [results, Tryz.results18, go_sem, z0, z1, z2, z3, z4, z5, z6, z7, z8]) rfl ⟨?_, fun _ => rfl, fun h => absurd h NE.out⟩
          exact below_set9 (B1.out.trans (W9.out.mono B1.out.size)) (Nat.le_refl _) _ _ _ _ _ _ _ _ _
      · have NE : Hid (¬ e1 = 0) := he1
        have e2 : e1 = e := by rw [← EV.out, if_pos he1]
        subst e2
        have t0 : (e1 != 0) = true := by simpa using he1
        clear he1
        have KS : Hid (∀ w', Below v5.heap.size v5 w' → w'.cell? ⟨v1.heap.size, 0, none⟩ = some (.int .i64 (m0 : Int)) ∧ w'.cell? ⟨v1.heap.size, 2, none⟩ = some (.int .i64 (n0 : Int)) ∧ w'.cell? ⟨v1.heap.size, 3, none⟩ = some (.int .i64 (d0 : Int))) := fun w' hb => ⟨(row_keep R5.out hb).cell (show 0 < 9 by decide), (row_keep R5.out hb).cell (show 2 < 9 by decide), (row_keep R5.out hb).cell (show 3 < 9 by decide)⟩
        have KSS : Hid (∀ (w' : World) (X : Value), Below v5.heap.size v5 w' → (w'.setCell ⟨v1.heap.size, 7, none⟩ X).cell? ⟨v1.heap.size, 0, none⟩ = some (.int .i64 (m0 : Int)) ∧ (w'.setCell ⟨v1.heap.size, 7, none⟩ X).cell? ⟨v1.heap.size, 2, none⟩ = some (.int .i64 (n0 : Int)) ∧ (w'.setCell ⟨v1.heap.size, 7, none⟩ X).cell? ⟨v1.heap.size, 3, none⟩ = some (.int .i64 (d0 : Int))) := fun w' X hb => by
          obtain ⟨q0, q1, q2⟩ := KS.out w' hb
          exact ⟨by rw [World.cell?_setCell_other _ _ _ _ (by simp)]; exact q0, by rw [World.cell?_setCell_other _ _ _ _ (by simp)]; exact q1, by rw [World.cell?_setCell_other _ _ _ _ (by simp)]; exact q2⟩
        have DD : Hid (Below v5.heap.size v5 v5.drew) := (Below.refl v5.heap.size v5).drew
        go_wp2
        go_region_held3 (fun w' => w'.cell? ⟨v1.heap.size, 0, none⟩ = some (.int .i64 (m0 : Int)) ∧ w'.cell? ⟨v1.heap.size, 2, none⟩ = some (.int .i64 (n0 : Int)) ∧ w'.cell? ⟨v1.heap.size, 3, none⟩ = some (.int .i64 (d0 : Int)))
          (first
            | exact KS.out _ DD.out
            | exact KS.out _ y5.out
            | exact KSS.out _ _ y5.out
            | assumption)
          (first
            | (go_at_call 53; refine (refRead_any p9 (o.drop 9) m0 s0 n0 d0 e1 p10 _ T9.out (Pg.byt_drop BO.out 9) LL.out.1 ST0.out l1 l2 l4 LK.out EE1.out T10.out).mono ?_; rintro r v6 ⟨hb, hbad, hok⟩; obtain ⟨t', rfl⟩ := hbad NE.out; have y5 : Hid (Below v5.heap.size v5 v6) := below_then DD.out hb; have x7 : v6.cell? ⟨v1.heap.size, 7, none⟩ = some (.slice none 0 0) := (row_keep R5.out y5.out).cell (show 7 < 9 by decide); have f7 := (row_keep R5.out y5.out).frozen 7; clear hb hbad hok))
        obtain ⟨v7, hv⟩ : ∃ u, v6.setCell ⟨v1.heap.size, 7, none⟩ (.slice none 0 0) = u := ⟨_, rfl⟩
        have W7 : Hid (Below v1.heap.size v1 v7) := by rw [← hv]; exact (W5.out.trans (y5.out.mono W5.out.size)).setCell (p := ⟨v1.heap.size, 7, none⟩) (Nat.le_refl _) _
        have R7 : Hid (v7.rowIs v1.heap.size 38 9 (pcell #[.int .i64 (m0 : Int), .int .i64 (m1 : Int), .int .i64 (n0 : Int), .int .i64 (d0 : Int), .int .i64 h4, .int .i64 h5, .int .i64 h6] (.slice none 0 0) (.slice none 0 0))) := by rw [← hv]; exact ((row_keep R5.out y5.out).set 7 _).congr (fun j _ => pcell_set7 _ _ _ _ j)
        have O7 : Hid (v7.heap.size = v6.heap.size ∧ ∀ g, ¬ g = v1.heap.size → v7.heap[g]? = v6.heap[g]?) := by rw [← hv]; exact ⟨Go.Deep.nblk_setCell _ _ _, fun g hg => Go.Deep.blk_setCell_other _ ⟨v1.heap.size, 7, none⟩ _ g hg⟩
        rw [hv]
        clear hv x7 f7 KS KSS
        obtain ⟨z0, z1, z2, z3, z4, z5, z6, z7, z8, fz⟩ := cells_z9 (Z1.out.of_block (W7.out.block _ Z1.out.lt))
        go_wp2
        refine bodyPost_ret (v := .tuple #[.agg #[.int .i64 0, .int .i64 0, .int .i64 0, .int .i64 0, .int .i64 0, .int .i64 0, .int .i64 0, .slice none 0 0, .slice none 0 0], .int .i64 e1]) (by simp [results, Tryz.results18, go_sem, z0, z1, z2, z3, z4, z5, z6, z7, z8]) rfl ⟨?_, fun _ => rfl, fun h => absurd h NE.out⟩
        exact below_set9 (B1.out.trans (W7.out.mono B1.out.size)) (Nat.le_refl _) _ _ _ _ _ _ _ _ _
theorem refParseP_bad (t : ByteArray) (l : List Int) (e : Int) (w : World) (ht : strOfNums l = t) (hl : l.length ≤ 10000) (hb : Sl.Byt l) (he : Pg.parseE l = e) (hne : ¬ e = 0) :
    Calls Tryz.prog 18 #[.string t] w fun r w' => r = .returned (.tuple #[.agg #[.int .i64 0, .int .i64 0, .int .i64 0, .int .i64 0, .int .i64 0, .int .i64 0, .int .i64 0, .slice none 0 0, .slice none 0 0], .int .i64 e]) ∧ Below w.heap.size w w' := by
  unfold Pg.parseE at he
  by_cases c4 : l.length < 4
  · rw [if_pos c4] at he
    subst he
    exact refParse_short t w (by rw [Sl.cut_size ht]; exact c4)
  rw [if_neg c4] at he
  cases hs : Sl.sealed l
  · rw [hs, if_pos rfl] at he
    subst he
    exact refParse_unsealed t l w ht (by omega) hl hb hs
  rw [hs, if_neg (by simp)] at he
  obtain ⟨o, eo⟩ : ∃ o, l.take (l.length - 4) = o := ⟨_, rfl⟩
  rw [eo] at he
  by_cases c9 : o.length < 9
  · unfold Pg.perr at he
    rw [if_pos c9] at he
    subst he
    exact refParse_hshort t l o w ht (by omega) hl hb hs eo c9
  by_cases c0 : Ls.nth o 0 = 75
  · exact (refParse_any t l o w ht (by omega) hl hb hs eo _ _ _ _ _ _ _ e (by omega) c0 rfl he).mono fun r w' h => ⟨h.2.1 hne, h.1⟩
  · unfold Pg.perr at he
    rw [if_neg c9, if_pos c0] at he
    subst he
    exact refParse_form t l o w ht (by omega) hl hb hs eo (by omega) c0
theorem refParseP_ok (t : ByteArray) (l o : List Int) (h0 h1 h2 h3 h4 h5 h6 : Int) (w : World) (ht : strOfNums l = t) (hl : l.length ≤ 10000) (hb : Sl.Byt l) (he : Pg.parseE l = 0) (eo : l.take (l.length - 4) = o) (hh : Pg.hread o = [h0, h1, h2, h3, h4, h5, h6]) :
    Calls Tryz.prog 18 #[.string t] w fun r w' => ∃ a1 k1 c1 a2 k2 c2, r = .returned (.tuple #[.agg #[.int .i64 h0, .int .i64 h1, .int .i64 h2, .int .i64 h3, .int .i64 h4, .int .i64 h5, .int .i64 h6, .slice a1 k1 c1, .slice a2 k2 c2], .int .i64 0]) ∧ k1 = (Pg.pkeys o).length ∧ k2 = (Pg.pvals o).length ∧ Gps w' a1 (Pg.pkeys o) ∧ Gps w' a2 (Pg.pvals o) ∧ Below w.heap.size w w' := by
  obtain ⟨q4, hs, hp⟩ := Pg.parseE_zero he
  rw [eo] at hp
  obtain ⟨g9, g0, _⟩ := Pg.perr_zero hp
  refine (refParse_any t l o w ht q4 hl hb hs eo h0 h1 h2 h3 h4 h5 h6 0 g9 g0 hh hp).mono fun r w' h => ?_
  obtain ⟨a1, k1, c1, a2, k2, c2, q1, q2, q3, q5, q6⟩ := h.2.2 rfl
  exact ⟨a1, k1, c1, a2, k2, c2, q1, q2, q3, q5, q6, h.1⟩
/-- What is read has just the bytes that were read. -/
theorem Pg.parse_back {l o : List Int} (hb : Sl.Byt l) (he : Pg.parseE l = 0) (eo : l.take (l.length - 4) = o) : Pg.bytes (Pg.hread o) (Pg.pkeys o) (Pg.pvals o) = l ∧ Pg.Page (Pg.hread o) (Pg.pkeys o) (Pg.pvals o) ∧ Pg.psize (Pg.hread o) = l.length := by
  obtain ⟨q4, hs, hp⟩ := Pg.parseE_zero he
  rw [eo] at hp
  have ob : Sl.Byt o := by rw [← eo]; exact Pg.byt_take hb _
  have ol : l.length = o.length + 4 := by rw [← eo, List.length_take]; omega
  refine ⟨?_, Pg.parse_page ob hp, ?_⟩
  · unfold Pg.bytes
    rw [Pg.parse_body ob (by rw [← ol]; exact hp)]
    unfold Sl.sealed at hs
    rw [eo] at hs
    exact of_decide_eq_true hs
  · obtain ⟨_, _, _, h, _⟩ := Pg.perr_zero hp
    exact h.symm
end Go.Proofs.YtimkfkolkplpdaaGreat
