/- How many bytes a page has, and what a token's key and value mean: the document's answers (layer 8). -/
import Derived.Test.YtimkfkolkplpdaaGreatPgBytes
namespace Go.Proofs.YtimkfkolkplpdaaGreat
set_option linter.unusedVariables false
open Go.RowKit
attribute [local go_sem ↓] Go.wp_at_zero Go.wp_at_succ

set_option maxHeartbeats 800000 in
theorem refSizeP_any (b0 b1 n d : Nat) (h4 h5 h6 : Int) (N : Nat) (w : World) (k0 : Pk.Ok b0) (k1 : Pk.Ok b1) (hn : n ≤ 16) (hd : d ≤ 16) (hN : 9 + Pg.gsize b0 n * d + Pg.gsize b1 d * n + 4 = N) :
    Calls Tryz.prog 52 #[.agg #[.int .i64 b0, .int .i64 b1, .int .i64 n, .int .i64 d, .int .i64 h4, .int .i64 h5, .int .i64 h6]] w fun r w' => r = .returned (.int .i64 N) ∧ Below w.heap.size w w' := by
  obtain ⟨p, ep⟩ : ∃ p, Pk.size b0 n = p := ⟨_, rfl⟩
  obtain ⟨q, eq⟩ : ∃ q, Pk.size b1 d = q := ⟨_, rfl⟩
  have hp : p ≤ 2 := by rw [← ep]; exact Pg.size_small k0 hn
  have hq : q ≤ 2 := by rw [← eq]; exact Pg.size_small k1 hd
  obtain ⟨x, ex⟩ : ∃ x, d * (8 + 8 * p) = x := ⟨_, rfl⟩
  obtain ⟨y, ey⟩ : ∃ y, n * (8 + 8 * q) = y := ⟨_, rfl⟩
  have hx : x ≤ 16 * 24 := by rw [← ex]; exact Nat.mul_le_mul hd (by omega)
  have hy : y ≤ 16 * 24 := by rw [← ey]; exact Nat.mul_le_mul hn (by omega)
  have exi : (d : Int) * (8 + 8 * (p : Int)) = (x : Int) := by rw [← ex]; push_cast; rfl
  have eyi : (n : Int) * (8 + 8 * (q : Int)) = (y : Int) := by rw [← ey]; push_cast; rfl
  have HN : Hid (9 + x + y + 4 = N) := by
    show _ = _
    rw [← hN, ← ex, ← ey]
    unfold Pg.gsize
    rw [ep, eq, Nat.mul_comm d, Nat.mul_comm n]
  have K0 : Hid (Pk.Ok b0) := k0
  have K1 : Hid (Pk.Ok b1) := k1
  have EP : Hid (Pk.size b0 n = p) := ep
  have EQ : Hid (Pk.size b1 d = q) := eq
  have q1 : IntKind.i64.wrap (8 * (p : Int)) = 8 * (p : Int) := by rw [IntKind.wrap_i64]; omega
  have q2 : IntKind.i64.wrap (8 * (q : Int)) = 8 * (q : Int) := by rw [IntKind.wrap_i64]; omega
  have q3 : IntKind.i64.wrap (8 + 8 * (p : Int)) = 8 + 8 * (p : Int) := by rw [IntKind.wrap_i64]; omega
  have q4 : IntKind.i64.wrap (8 + 8 * (q : Int)) = 8 + 8 * (q : Int) := by rw [IntKind.wrap_i64]; omega
  have q5 : IntKind.i64.wrap (x : Int) = x := by rw [IntKind.wrap_i64]; omega
  have q6 : IntKind.i64.wrap (y : Int) = y := by rw [IntKind.wrap_i64]; omega
  have q7 : IntKind.i64.wrap (9 + (x : Int)) = 9 + (x : Int) := by rw [IntKind.wrap_i64]; omega
  have q8 : IntKind.i64.wrap (9 + (x : Int) + (y : Int)) = 9 + (x : Int) + (y : Int) := by rw [IntKind.wrap_i64]; omega
  have q9 : IntKind.i64.wrap (9 + (x : Int) + (y : Int) + 4) = 9 + (x : Int) + (y : Int) + 4 := by rw [IntKind.wrap_i64]; omega
  have C0 : Hid (∀ w', Calls Tryz.prog 80 #[.int .i64 n, .int .i64 b0] w' fun e w'' => e = .returned (.int .i64 (p : Int)) ∧ w'' = w') := fun w' => by rw [← EP.out]; exact refWords_any n b0 K0.out (by omega) w'
  have C1 : Hid (∀ w', Calls Tryz.prog 80 #[.int .i64 d, .int .i64 b1] w' fun e w'' => e = .returned (.int .i64 (q : Int)) ∧ w'' = w') := fun w' => by rw [← EQ.out]; exact refWords_any d b1 K1.out (by omega) w'
  clear hN k0 k1 ep eq ex ey
  go_enter Tryz.func52, Tryz.ntmps52
  go_wp2
  go_quiet ((go_at_call 80; first | (with_reducible exact (C0.out _).mono fun _ _ ⟨he, hw⟩ => ⟨he, _, hw⟩) | (with_reducible exact (C1.out _).mono fun _ _ ⟨he, hw⟩ => ⟨he, _, hw⟩)))
  go_wp2
  go_ret
  refine ⟨ret_num ?_, below_drewN (box_below _ _) _⟩
  have := HN.out
  omega
/-- What the key of a token means. -/
def Pg.key (ks : List (Int × Int × List Int)) (t : Nat) : List Int := Ls.gen ks.length fun i => Gp.mean (Pg.gz (Pg.nth ks i)) (Pg.gs (Pg.nth ks i)) (Ls.nth (Pg.gc (Pg.nth ks i)) t)
theorem Pg.key_length (ks : List (Int × Int × List Int)) (t : Nat) : (Pg.key ks t).length = ks.length := Ls.gen_length _ _
theorem Pg.nth_key {ks : List (Int × Int × List Int)} {t i : Nat} (h : i < ks.length) : Ls.nth (Pg.key ks t) i = Gp.mean (Pg.gz (Pg.nth ks i)) (Pg.gs (Pg.nth ks i)) (Ls.nth (Pg.gc (Pg.nth ks i)) t) := Ls.nth_gen h
/-- Groups of which each code from 0 to 255 means something, with at least so many codes. -/
def Pg.Deep (n : Nat) (l : List (Int × Int × List Int)) : Prop := ∀ i, i < l.length → (Pg.gc (Pg.nth l i)).length = n ∧ Gp.fits 255 (Pg.gc (Pg.nth l i)) = true ∧ -2147483648 ≤ Pg.gz (Pg.nth l i) ∧ Pg.gz (Pg.nth l i) ≤ 2147483647 ∧ 0 ≤ Pg.gs (Pg.nth l i) ∧ Pg.gs (Pg.nth l i) ≤ 4294967295
theorem Pg.deep_of {b n : Nat} {l : List (Int × Int × List Int)} (hb : b = 2 ∨ b = 4 ∨ b = 8) (h : Pg.AllFit b n l) : Pg.Deep n l := fun i hi => by
  obtain ⟨h1, h2, h3, h4, h5, h6⟩ := h i hi
  refine ⟨h1, Gp.fits_yes fun j hj => ?_, h3, h4, h5, h6⟩
  have := h2 j
  have hp : 2 ^ b ≤ 256 := by rcases hb with rfl | rfl | rfl <;> decide
  omega

set_option maxRecDepth 100000 in
set_option maxHeartbeats 1600000 in
theorem refKeyP_any (h0 h1 h2 h3 h4 h5 h6 : Int) (a1 : Option Addr) (c1 : Nat) (v2 : Value) (hv2 : ∃ a n c, v2 = .slice a n c) (ks : List (Int × Int × List Int)) (n t : Nat) (w : World) (ha : Gps w a1 ks) (hl : ks.length ≤ 256) (hd : Pg.Deep n ks) (ht : t < n) :
    Calls Tryz.prog 39 #[.agg #[.int .i64 h0, .int .i64 h1, .int .i64 h2, .int .i64 h3, .int .i64 h4, .int .i64 h5, .int .i64 h6, .slice a1 ks.length c1, v2], .int .i64 t] w fun e w' => ∃ a' c', e = .returned (.slice a' ks.length c') ∧
      Lst .i32 w' a' (Pg.key ks t) ∧ Below w.heap.size w w' := by
  obtain ⟨av, nv, cv, rfl⟩ := hv2
  obtain ⟨i0, hi0, hi1, hi2, hi3⟩ := info_parts Tryz.infoInt32
  have HA : Hid (Gps w a1 ks) := ha
  have HD : Hid (Pg.Deep n ks) := hd
  clear ha hd
  go_enter Tryz.func39, Tryz.ntmps39
  go_wp2
  go_loopw [5, 6] (fun v i wr => ∃ k : Nat, k ≤ ks.length ∧ i = .int .i64 k ∧ wr.ownsRow (w.heap.size + 1) 21 1 v k ((Ls.gen k fun i => Gp.mean (Pg.gz (Pg.nth ks i)) (Pg.gs (Pg.nth ks i)) (Ls.nth (Pg.gc (Pg.nth ks i)) t)).map (Value.int .i32)) ∧ Below (w.heap.size + 1) (w.alloc (.cells #[.int .i64 h0, .int .i64 h1, .int .i64 h2, .int .i64 h3, .int .i64 h4, .int .i64 h5, .int .i64 h6, .slice a1 ks.length c1, .slice av nv cv] 38)) wr) (fun _ i _ => ks.length - (intOf i).toNat)
  case atStart => exact ⟨0, Nat.zero_le _, rfl, World.ownsRow_nil _ _ _ _, Below.refl _ _⟩
  case round =>
    obtain ⟨k, hk, rfl, hown, hbel⟩ := hrel
    have hb0 : Below w.heap.size w wr := (box_below w _).trans (hbel.mono (by omega))
    have d7 : wr.cell? ⟨w.heap.size, 7, none⟩ = some (.slice a1 ks.length c1) := by rw [hbel.cell (p := ⟨w.heap.size, 7, none⟩) (by simp)]; exact cell_of_row _ _ _ _ _ _ (heap_alloc_new w _)
    by_cases hlt : k < ks.length
    · obtain ⟨b1, o1, rfl, hg1⟩ := HA.out.get hlt
      obtain ⟨x1, y1, G1⟩ := hg1 k hlt
      obtain ⟨hn, hf, hz1, hz2, hs1, hs2⟩ := HD.out k hlt
      have htl : t < (Pg.gc (Pg.nth ks k)).length := by omega
      have hfk := Gp.fits_all hf t htl
      obtain ⟨b2, o2, rfl, hc2⟩ := G1.2.2.2.get htl
      have hct := hc2 t htl
      have l1 : b1 < w.heap.size := G1.lt
      have l2 : b2 < w.heap.size := World.block_lt_of_cell? w _ hct
      have hsz : w.heap.size + 1 ≤ wr.heap.size := by have := hbel.size; simpa using this
      have HC1 : Hid (w.cell? ⟨b1, o1 + k * 3, none⟩ = some (.int .i32 (Pg.gz (Pg.nth ks k))) ∧ w.cell? ⟨b1, o1 + k * 3 + 1, none⟩ = some (.int .u32 (Pg.gs (Pg.nth ks k))) ∧ w.cell? ⟨b1, o1 + k * 3 + 2, none⟩ = some (.slice (some ⟨b2, o2, none⟩) (Pg.gc (Pg.nth ks k)).length y1)) := G1.cells
      have old : ∀ (w' : World), Below (w.heap.size + 1) (w.alloc (.cells #[.int .i64 h0, .int .i64 h1, .int .i64 h2, .int .i64 h3, .int .i64 h4, .int .i64 h5, .int .i64 h6, .slice (some ⟨b1, o1, none⟩) ks.length c1, .slice av nv cv] 38)) w' → ∀ (b o : Nat), b < w.heap.size → w'.cell? ⟨b, o, none⟩ = w.cell? ⟨b, o, none⟩ := fun w' hb b o hbo => by
        rw [hb.cell (p := ⟨b, o, none⟩) (show b < w.heap.size + 1 by omega), (box_below w _).cell (p := ⟨b, o, none⟩) hbo]
      have KS : Hid (∀ w', Below (w.heap.size + 1) (w.alloc (.cells #[.int .i64 h0, .int .i64 h1, .int .i64 h2, .int .i64 h3, .int .i64 h4, .int .i64 h5, .int .i64 h6, .slice (some ⟨b1, o1, none⟩) ks.length c1, .slice av nv cv] 38)) w' → (w'.cell? ⟨b1, o1 + k * 3, none⟩ = some (.int .i32 (Pg.gz (Pg.nth ks k))) ∧ w'.cell? ⟨b1, o1 + k * 3 + 1, none⟩ = some (.int .u32 (Pg.gs (Pg.nth ks k))) ∧ w'.cell? ⟨b1, o1 + k * 3 + 2, none⟩ = some (.slice (some ⟨b2, o2, none⟩) (Pg.gc (Pg.nth ks k)).length y1)) ∧ w'.cell? ⟨w.heap.size, 7, none⟩ = some (.slice (some ⟨b1, o1, none⟩) ks.length c1) ∧ w'.cell? ⟨b2, o2 + t, none⟩ = some (.int .i64 (Ls.nth (Pg.gc (Pg.nth ks k)) t)) ∧ Hid (Below (w.heap.size + 1) (w.alloc (.cells #[.int .i64 h0, .int .i64 h1, .int .i64 h2, .int .i64 h3, .int .i64 h4, .int .i64 h5, .int .i64 h6, .slice (some ⟨b1, o1, none⟩) ks.length c1, .slice av nv cv] 38)) w')) := fun w' hb => by
        refine ⟨⟨?_, ?_, ?_⟩, ?_, ?_, hb⟩
        · rw [old w' hb _ _ l1]; exact HC1.out.1
        · rw [old w' hb _ _ l1]; exact HC1.out.2.1
        · rw [old w' hb _ _ l1]; exact HC1.out.2.2
        · rw [hb.cell (p := ⟨w.heap.size, 7, none⟩) (by simp)]; exact cell_of_row _ _ _ _ _ _ (heap_alloc_new w _)
        · rw [old w' hb _ _ l2]; exact hct
      have HO : Hid (wr.ownsRow (w.heap.size + 1) 21 1 u5 k ((Ls.gen k fun i => Gp.mean (Pg.gz (Pg.nth ks i)) (Pg.gs (Pg.nth ks i)) (Ls.nth (Pg.gc (Pg.nth ks i)) t)).map (Value.int .i32))) := hown
      have HB : Hid (Below (w.heap.size + 1) (w.alloc (.cells #[.int .i64 h0, .int .i64 h1, .int .i64 h2, .int .i64 h3, .int .i64 h4, .int .i64 h5, .int .i64 h6, .slice (some ⟨b1, o1, none⟩) ks.length c1, .slice av nv cv] 38)) wr) := hbel
      have e0 : (0 : Int) ≤ (k : Int) := by omega
      have e1 : (k : Int) < (ks.length : Int) := by omega
      have e2 : (0 : Int) ≤ (t : Int) := by omega
      have e3 : (t : Int) < ((Pg.gc (Pg.nth ks k)).length : Int) := by omega
      clear hg1 G1 hc2 hct hown hbel hb0 old hn hf
      go_wp2_with fail
      clear d7
      go_region_held3 (fun w' => (w'.cell? ⟨b1, o1 + k * 3, none⟩ = some (.int .i32 (Pg.gz (Pg.nth ks k))) ∧ w'.cell? ⟨b1, o1 + k * 3 + 1, none⟩ = some (.int .u32 (Pg.gs (Pg.nth ks k))) ∧ w'.cell? ⟨b1, o1 + k * 3 + 2, none⟩ = some (.slice (some ⟨b2, o2, none⟩) (Pg.gc (Pg.nth ks k)).length y1)) ∧ w'.cell? ⟨w.heap.size, 7, none⟩ = some (.slice (some ⟨b1, o1, none⟩) ks.length c1) ∧ w'.cell? ⟨b2, o2 + t, none⟩ = some (.int .i64 (Ls.nth (Pg.gc (Pg.nth ks k)) t)) ∧ Hid (Below (w.heap.size + 1) (w.alloc (.cells #[.int .i64 h0, .int .i64 h1, .int .i64 h2, .int .i64 h3, .int .i64 h4, .int .i64 h5, .int .i64 h6, .slice (some ⟨b1, o1, none⟩) ks.length c1, .slice av nv cv] 38)) w'))
        (first
          | exact KS.out _ HB.out.drew
          | exact KS.out _ hb2.out
          | exact KS.out _ (hb1.out.alloc (hz1'.out) _)
          | exact KS.out _ hb1.out)
        (first
          | (go_at_call 67; refine (refOne_any _ _ _ _ _ _ hz1 hz2 hs1 hs2 hfk.1 hfk.2 _).mono ?_; rintro e w' ⟨rfl, hb⟩; have hb1 : Hid (Below (w.heap.size + 1) (w.alloc (.cells #[.int .i64 h0, .int .i64 h1, .int .i64 h2, .int .i64 h3, .int .i64 h4, .int .i64 h5, .int .i64 h6, .slice (some ⟨b1, o1, none⟩) ks.length c1, .slice av nv cv] 38)) w') := HB.out.drew.trans (hb.mono hsz); have hz1' : Hid (w.heap.size + 1 ≤ w'.heap.size) := Nat.le_trans hsz hb.size; have HO1 : Hid (w'.ownsRow (w.heap.size + 1) 21 1 u5 k ((Ls.gen k fun i => Gp.mean (Pg.gz (Pg.nth ks i)) (Pg.gs (Pg.nth ks i)) (Ls.nth (Pg.gc (Pg.nth ks i)) t)).map (Value.int .i32))) := own_below HO.out.drew hb; clear hb)
          | (refine step_append_lies _ (by rfl) _ _ _ (by rfl) (w.heap.size + 1) 21 i0 _ 1 4 Tryz.underlying62 hi0 hi1 hi2 hi3 rfl (by omega) _ k _ (by rfl) (HO1.out.alloc _) ⟨w'.heap.size, 0, none⟩ 1 1 [.int .i32 (Gp.mean (Pg.gz (Pg.nth ks k)) (Pg.gs (Pg.nth ks k)) (Ls.nth (Pg.gc (Pg.nth ks k)) t))] (by rfl) (by rfl) (World.news_of_block (cs := #[.int .i32 (Gp.mean (Pg.gz (Pg.nth ks k)) (Pg.gs (Pg.nth ks k)) (Ls.nth (Pg.gc (Pg.nth ks k)) t))]) (t := 21) (fr := (0, 0)) (heap_alloc_new w' _)) (by simp [Value.oneCell']) (by omega) (by unfold maxLen; omega) (by omega) (by have := hz1'.out; simp; omega) (w'.heap.size + 1) (by simp) ?_; intro gg cap w1 hown1 hgrow hat hlt1; have hb2 : Hid (Below (w.heap.size + 1) (w.alloc (.cells #[.int .i64 h0, .int .i64 h1, .int .i64 h2, .int .i64 h3, .int .i64 h4, .int .i64 h5, .int .i64 h6, .slice (some ⟨b1, o1, none⟩) ks.length c1, .slice av nv cv] 38)) w1) := (hb1.out.alloc hz1'.out _).grown hgrow (by have := hz1'.out; simp; omega) (fun j hj => (HO1.out.lt j hj).1); have HO2 : Hid (w1.ownsRow (w.heap.size + 1) 21 1 (.slice (some ⟨gg, 0, none⟩) (k + 1) cap) (k + 1) ((Ls.gen k fun i => Gp.mean (Pg.gz (Pg.nth ks i)) (Pg.gs (Pg.nth ks i)) (Ls.nth (Pg.gc (Pg.nth ks i)) t)).map (Value.int .i32) ++ [.int .i32 (Gp.mean (Pg.gz (Pg.nth ks k)) (Pg.gs (Pg.nth ks k)) (Ls.nth (Pg.gc (Pg.nth ks k)) t))])) := hown1; clear hown1 hgrow))
      go_wp2
      go_roundw
      case rel => exact ⟨k + 1, by omega, by go_num, gen_snoc HO2.out rfl, hb2.out⟩
      case measure => simp [intOf]; omega
    · have e : k = ks.length := by omega
      subst e
      have HO : Hid (wr.ownsRow (w.heap.size + 1) 21 1 u5 ks.length ((Ls.gen ks.length fun i => Gp.mean (Pg.gz (Pg.nth ks i)) (Pg.gs (Pg.nth ks i)) (Ls.nth (Pg.gc (Pg.nth ks i)) t)).map (Value.int .i32)) ∧ Below w.heap.size w wr) := ⟨hown, hb0⟩
      clear hown hbel hb0
      go_wp2
      go_ret
      have hm : ks.length = (Pg.key ks t).length := (Pg.key_length _ _).symm
      obtain ⟨a', c', h1, h2⟩ := lst_of_ownm (l := Pg.key ks t) HO.out.1 hm
      have hb := HO.out.2
      clear HO
      subst h1
      exact ⟨a', c', rfl, h2, hb⟩

theorem refValueP_any (h0 h1 h2 h3 h4 h5 h6 : Int) (a2 : Option Addr) (c2 : Nat) (v1 : Value) (hv1 : ∃ a n c, v1 = .slice a n c) (vs : List (Int × Int × List Int)) (n t : Nat) (w : World) (ha : Gps w a2 vs) (hl : vs.length ≤ 256) (hn : n ≤ 256) (hd : Pg.Deep n vs) (ht : t < vs.length) :
    Calls Tryz.prog 40 #[.agg #[.int .i64 h0, .int .i64 h1, .int .i64 h2, .int .i64 h3, .int .i64 h4, .int .i64 h5, .int .i64 h6, v1, .slice a2 vs.length c2], .int .i64 t] w fun e w' => ∃ a' c', e = .returned (.slice a' n c') ∧
      Lst .i32 w' a' (Gp.means (Pg.gz (Pg.nth vs t)) (Pg.gs (Pg.nth vs t)) (Pg.gc (Pg.nth vs t))) ∧ Below w.heap.size w w' := by
  obtain ⟨av, nv, cv, rfl⟩ := hv1
  obtain ⟨b1, o1, rfl, hg1⟩ := ha.get ht
  obtain ⟨x1, y1, G1⟩ := hg1 t ht
  obtain ⟨hn1, hf, hz1, hz2, hs1, hs2⟩ := hd t ht
  have K1 : Hid (GpAt w b1 o1 t (Pg.nth vs t) x1 y1) := G1
  have HN : Hid ((Pg.gc (Pg.nth vs t)).length = n) := hn1
  have HF : Hid (Gp.fits 255 (Pg.gc (Pg.nth vs t)) = true) := hf
  obtain ⟨d0, d1, d2⟩ := G1.cells
  have l1 := G1.lt
  clear hg1 G1 hd ha hn1 hf
  go_enter Tryz.func40, Tryz.ntmps40
  go_wp2_with fail
  refine (refBack_any _ _ _ _ (Pg.gc (Pg.nth vs t)) _ (K1.out.2.2.2.keep (box_below _ _)) (by rw [HN.out]; exact hn) HF.out hz1 hz2 hs1 hs2).mono ?_
  rintro e v ⟨a', c', rfl, hL, hb⟩
  have R : Hid (Lst .i32 v a' (Gp.means (Pg.gz (Pg.nth vs t)) (Pg.gs (Pg.nth vs t)) (Pg.gc (Pg.nth vs t))) ∧ Below w.heap.size w v) := ⟨hL, below_then (box_below _ _) hb⟩
  clear hL hb d0 d1 d2
  go_wp2
  go_ret
  refine ⟨a', c', ?_, R.out⟩
  rw [HN.out]
  rfl
end Go.Proofs.YtimkfkolkplpdaaGreat
