/- Layer 13: CaPage, CaPages, CaKey, PaZone. -/
import Derived.Test.YtnchnlgnnlgjcaaGreatCn15
import Derived.Test.YtnchnlgnnlgjcaaGreatCn16
import Derived.Deep.RegionHeld3
import Derived.Deep.SlicePairs
import Derived.Test.YtnchnlgnnlgjcaaGreatCn05
import Derived.Test.YtnchnlgnnlgjcaaGreatCn09
namespace Go.Proofs.YtnchnlgnnlgjcaaGreat
set_option linter.unusedVariables false
open Go.RowKit
abbrev G3 := Int × Int × List Int
/-- A group. -/
def eGp : El G3 := fun Q w c g => c 0 = some (.int .i32 (Pg.gz g)) ∧ c 1 = some (.int .u32 (Pg.gs g)) ∧ ∃ A C, c 2 = some (.slice A (Pg.gc g).length C) ∧ SlQ Q 1 (eNum .i64) w A (Pg.gc g)
/-- A page: its head's numbers, its keys' groups, its values'. -/
def ePg : El (List Int × List G3 × List G3) := fun Q w c x => (∀ j, j < 7 → c j = some (.int .i64 (Ls.nth x.1 j))) ∧ (∃ A C, c 7 = some (.slice A x.2.1.length C) ∧ SlQ Q 3 eGp w A x.2.1) ∧ ∃ A C, c 8 = some (.slice A x.2.2.length C) ∧ SlQ Q 3 eGp w A x.2.2
theorem SlQ.gps {Q : Nat → Prop} {w : World} {a : Option Addr} {l : List G3} (h : SlQ Q 3 eGp w a l) : Gps w a l := fun i hi => by
  obtain ⟨b, o, e, _, _, c0, c1, A, C, c2, s⟩ := h i hi
  have en : Pg.nth l i = l[i] := by simp [Pg.nth, hi]
  refine ⟨b, o, A, C, e, ?_⟩
  rw [en]
  exact ⟨c0, c1, c2, s.lst⟩
/-- A piece of a slice: behind the first t. -/
theorem SlQ.from {α : Type} {E : El α} {Q : Nat → Prop} {s : Nat} {w : World} {a a' : Option Addr} {l : List α} (h : SlQ Q s E w a l) (t n : Nat) (ha : t < l.length → ∀ b o, a = some ⟨b, o, none⟩ → a' = some ⟨b, o + t * s, none⟩) : SlQ Q s E w a' ((l.drop t).take n) := fun i hi => by
  have h1 : t + i < l.length := by rw [List.length_take, List.length_drop] at hi; omega
  obtain ⟨b, o, e, hb, hq, he⟩ := h (t + i) h1
  refine ⟨b, o + t * s, ha (by omega) b o e, hb, hq, ?_⟩
  rw [List.getElem_take, List.getElem_drop]
  have ee : (fun j => w.cell? ⟨b, o + t * s + (i * s + j), none⟩) = fun j => w.cell? ⟨b, o + ((t + i) * s + j), none⟩ := by
    funext j
    rw [show o + t * s + (i * s + j) = o + ((t + i) * s + j) by rw [Nat.add_mul]; omega]
  rw [ee]
  exact he
namespace Ca
/-- The i-th piece of g tokens. -/
def piece (g : Nat) (L : List Tok) (i : Nat) : List Tok := (L.drop (i * g)).take g
/-- THE i-th PAGE of a head. -/
def pg (m0 m1 s0 s1 g D ly hd : Nat) (L : List Tok) (i : Nat) : List Int × List G3 × List G3 :=
  ([(m0 : Int), m1, g, D, ly, hd, i], Pg.qk s0 D (ksOf (piece g L i) hd), Pg.qv s1 (vsOf (piece g L i) hd))
end Ca
end Go.Proofs.YtnchnlgnnlgjcaaGreat
namespace Go.Proofs.YtnchnlgnnlgjcaaGreat
set_option linter.unusedVariables false
open Go.RowKit
theorem Ca.row_map (f : Tok → List Int) (L : List Tok) {q : Nat} (h : q < L.length) : Tb.row (L.map f) q = f L[q] := by simp [Tb.row, h]
theorem Ca.row_in (f : Tok → List Int) (L : List Tok) (h : ∀ q (hq : q < L.length), Ls.In32 (f L[q])) (q : Nat) : Ls.In32 (Tb.row (L.map f) q) := by
  by_cases hq : q < L.length
  · rw [Ca.row_map f L hq]; exact h q hq
  · rw [Tb.row_past (by simp; omega)]; exact fun i => by rw [Ls.nth_nil]; omega
end Go.Proofs.YtnchnlgnnlgjcaaGreat
namespace Go.Proofs.YtnchnlgnnlgjcaaGreat
set_option linter.unusedVariables false
open Go.RowKit
attribute [local go_sem ↓] Go.wp_at_zero Go.wp_at_succ
/-- A ROW THAT IS NEW: behind block B. -/
def Fr (B : Nat) (w : World) (a : Option Addr) (c : Nat) (l : List Int) : Prop := SlQ (fun q => B ≤ q) 1 (eNum .i32) w a l ∧ l.length ≤ c ∧ c ≤ maxLen ∧ (a = none → c = 0)
theorem Fr.mono {A B : Nat} {w : World} {a : Option Addr} {c : Nat} {l : List Int} (h : Fr B w a c l) (e : A ≤ B) : Fr A w a c l := ⟨h.1.carry (carry_num _) (fun q _ hq => ⟨by omega, rfl⟩) (Nat.le_refl _), h.2⟩
theorem fr_of_ownm {w : World} {B base : Nat} {t : TypeId} {v : Value} {n : Nat} (hB : B ≤ base) {l : List Int} (h : w.ownsRow base t 1 v n (l.map (Value.int .i32))) (hn : n = l.length) : ∃ a c, v = .slice a n c ∧ Fr B w a c l := by
  obtain ⟨a, c, e, hs, h1, h2, h3⟩ := slq_of_own (E := eNum .i32) (Q := fun q => B ≤ q) (l := l) h hn (fun q hq => by have := (h.lt q hq).1; omega) fun i hi c hc => by
    show c 0 = _
    rw [hc 0 (by decide)]
    simp [hi]
  exact ⟨a, c, e, hs, by omega, h2, h3⟩
end Go.Proofs.YtnchnlgnnlgjcaaGreat
namespace Go.Proofs.YtnchnlgnnlgjcaaGreat
set_option linter.unusedVariables false
open Go.RowKit
attribute [local go_sem ↓] Go.wp_at_zero Go.wp_at_succ
/-- The words of a row of packed groups lie behind it. -/
def PkN (w : World) (g : Nat) : Prop := ∀ (i : Nat) (x : Addr) (n c : Nat), w.cell? ⟨g, i * 4 + 3, none⟩ = some (.slice (some x) n c) → g < x.block
theorem PkN.keep {w w' : World} {g : Nat} (h : PkN w g) (hg : g < w.heap.size) (hb : Below w.heap.size w w') : PkN w' g := fun i x n c e => h i x n c (by rw [hb.cell (p := ⟨g, i * 4 + 3, none⟩) hg] at e; exact e)
theorem row_past {w : World} {g : Nat} {t : TypeId} {N o : Nat} {f : Nat → Value} (h : w.rowIs g t N f) (ho : N ≤ o) : w.cell? ⟨g, o, none⟩ = none := by
  obtain ⟨cs, e, hn, _⟩ := h
  rw [cell_of_row w g o cs t (0, 0) e]
  exact Array.getElem?_eq_none (by omega)
theorem PRow.pkn {w : World} {g : Nat} {t : TypeId} {N b : Nat} {l : List (Int × Int × List Int)} (h : PRow w g t N b l l.length) (hN : N = l.length * 4) : PkN w g := by
  obtain ⟨f, hr, hc⟩ := h
  intro i x n c e
  by_cases hi : i < l.length
  · obtain ⟨a, c', _, _, _, h3, _, h5⟩ := hc i hi
    rw [hr.cell (by omega), h3] at e
    cases e
    exact h5 x rfl
  · rw [row_past hr (by omega)] at e
    cases e
/-- What a page hangs on is not ahead of s. -/
def PgN (s : Nat) (w : World) (p : Nat) : Prop := s ≤ p ∧ ∀ (a : Addr) (n c : Nat), w.cell? ⟨p, 7, none⟩ = some (.slice (some a) n c) ∨ w.cell? ⟨p, 8, none⟩ = some (.slice (some a) n c) → s ≤ a.block ∧ PkN w a.block
set_option maxHeartbeats 1600000 in
theorem packAll_z (a : Option Addr) (c b n : Nat) (l : List (Int × Int × List Int)) (w : World) (ha : Gps w a l) (hl : l.length ≤ 10000) (hb : Pk.Ok b) (hf : Pg.AllFit b n l) (hn : n ≤ 256) :
    Calls Tryz.prog 141 #[.slice a l.length c, .int .i64 b] w fun e w' => ∃ g, e = .returned (.slice (some ⟨g, 0, none⟩) l.length l.length) ∧ w.heap.size ≤ g ∧ Pks w' g b l ∧ PkN w' g ∧ Below w.heap.size w w' := by
  have HA : Hid (Gps w a l) := ha
  have HB : Hid (Pk.Ok b) := hb
  have HF : Hid (Pg.AllFit b n l) := hf
  clear ha hb hf
  have hmk := run_make_rows (P := Tryz.prog) 174 180 (.agg #[.int .i32 0, .int .u32 0, .slice none 0 0, .slice none 0 0]) #[.int .i32 0, .int .u32 0, .slice none 0 0, .slice none 0 0] 4 56 rfl Tryz.underlying174 Tryz.infoPk .i64 .i64 l.length (by omega) (by omega)
  go_enter Tryz.func141, Tryz.ntmps141
  go_wp2
  clear hmk
  go_loopw [13] (fun i wr => ∃ k : Nat, k ≤ l.length ∧ i = .int .i64 k ∧ PRow wr w.heap.size 180 (l.length * 4) b l k ∧ Below w.heap.size w wr) (fun i _ => l.length - (intOf i).toNat)
  case atStart => exact ⟨0, Nat.zero_le _, rfl, PRow.made w _ _ _ _ _, (Below.refl _ _).alloc (Nat.le_refl _) _⟩
  case round =>
    obtain ⟨k, hk, rfl, hrow, hbel⟩ := hrel
    have HR : Hid (PRow wr w.heap.size 180 (l.length * 4) b l k) := hrow
    have HW : Hid (Below w.heap.size w wr) := hbel
    have hsz := hbel.size
    have hlt0 := hrow.lt
    clear hrow hbel
    by_cases hlt : k < l.length
    · obtain ⟨b1, o1, rfl, hall⟩ := HA.out.get hlt
      obtain ⟨a', c', hg⟩ := hall k hlt
      obtain ⟨d0, d1, d2, d3⟩ := hg.keep HW.out
      have D3 : Hid (Lst .i64 wr a' (Pg.gc (Pg.nth l k))) := d3
      have hbl := hg.lt
      have F1 := HF.out k hlt
      have FL : Hid ((Pg.gc (Pg.nth l k)).length = n) := F1.1
      have FC : Hid (Pk.Cds b (Pg.gc (Pg.nth l k))) := F1.2.1
      clear hall d3 hg F1
      obtain ⟨N, eN⟩ : ∃ N, Pk.size b (Pg.gc (Pg.nth l k)).length = N := ⟨_, rfl⟩
      have EN : Hid (Pk.size b (Pg.gc (Pg.nth l k)).length = N) := eN
      clear eN
      go_wp2_with fail
      refine (packOne_any _ _ _ _ b (Pg.gc (Pg.nth l k)) N _ (D3.out.keep (box_below _ _)) HB.out (by rw [FL.out]; omega) FC.out EN.out).mono ?_
      rintro e v ⟨g, rfl, hg, hL, hbv⟩
      have BV : Hid (Below w.heap.size w v) := below_then (below_then HW.out (box_below _ _)) hbv
      have RV : Hid (PRow v w.heap.size 180 (l.length * 4) b l k) := (HR.out.keep (box_below _ _)).keep hbv
      have LV : Hid (Lst .u64 v (some ⟨g, 0, none⟩) (Pk.pack b (Pg.gc (Pg.nth l k)))) := hL
      have hg0 : w.heap.size < g := by simp at hg; omega
      obtain ⟨f, hr⟩ := RV.out.room
      have r0 := hr.cell (show k * 4 < l.length * 4 by omega)
      have r1 := hr.cell (show k * 4 + 1 < l.length * 4 by omega)
      have r2 := hr.cell (show k * 4 + 2 < l.length * 4 by omega)
      have r3 := hr.cell (show k * 4 + 3 < l.length * 4 by omega)
      have s0 := hr.frozen (k * 4)
      have s1 := hr.frozen (k * 4 + 1)
      have s2 := hr.frozen (k * 4 + 2)
      have s3 := hr.frozen (k * 4 + 3)
      clear hg hL hbv hr d0 d1 d2
      go_wp2
      go_roundw
      case rel =>
        refine ⟨k + 1, by omega, by go_num, RV.out.step rfl rfl EN.out LV.out (fun x e => by cases e; exact hg0), ?_⟩
        exact (((BV.out.setCell (by simp) _).setCell (by simp) _).setCell (by simp) _).setCell (by simp) _
      case measure => simp [intOf]; omega
    · have e : k = l.length := by omega
      subst e
      go_wp2
      go_ret
      exact ⟨w.heap.size, rfl, Nat.le_refl _, HR.out.pks rfl, HR.out.pkn rfl, HW.out⟩
theorem PkN.lt {w : World} {g b : Nat} {l : List (Int × Int × List Int)} (h : Pks w g b l) (h0 : 0 < l.length) : g < w.heap.size := by
  obtain ⟨a, c, q, _⟩ := h 0 h0
  exact World.block_lt_of_cell? w _ q
set_option maxRecDepth 100000 in
set_option maxHeartbeats 3200000 in
theorem newP_z (m0 m1 n0 d0 : Nat) (h4 h5 h6 : Int) (a1 a2 : Option Addr) (c1 c2 : Nat) (ks vs : List (Int × Int × List Int)) (w : World) (ha : Gps w a1 ks) (hb : Gps w a2 vs) (lk : ks.length ≤ 10000) (lv : vs.length ≤ 10000) (ik : InG ks) (iv : InG vs) (he : Pg.newE [(m0 : Int), m1, n0, d0, h4, h5, h6] ks vs = 0) :
    Calls Tryz.prog 123 #[.agg #[.int .i64 (m0 : Int), .int .i64 (m1 : Int), .int .i64 (n0 : Int), .int .i64 (d0 : Int), .int .i64 h4, .int .i64 h5, .int .i64 h6], .slice a1 ks.length c1, .slice a2 vs.length c2] w fun r w' => ∃ p, r = .returned (.tuple #[.pointer (some ⟨p, 0, none⟩), .int .i64 0]) ∧ w.heap.size ≤ p ∧ PageAt w' p m0 m1 n0 d0 h4 h5 h6 ks vs ∧ PgN w.heap.size w' p ∧ Below w.heap.size w w' := by
  have hp := Pg.newE_page (h := [(m0 : Int), m1, n0, d0, h4, h5, h6]) rfl ik iv he
  have HA : Hid (Gps w a1 ks) := ha
  have HB : Hid (Gps w a2 vs) := hb
  have IK : Hid (InG ks) := ik
  have IV : Hid (InG vs) := iv
  have LK : Hid (ks.length ≤ maxLen) := by show ks.length ≤ maxLen; unfold maxLen; omega
  have LV : Hid (vs.length ≤ maxLen) := by show vs.length ≤ maxLen; unfold maxLen; omega
  clear ha hb ik iv
  obtain ⟨hr, sk, sv, rk, rv⟩ := Pg.newE_zero he
  obtain ⟨qa, qb, qc, qd, qe, qf, _⟩ := Pg.rightH_all hr
  have qa' : (m0 : Int) = 2 ∨ (m0 : Int) = 4 ∨ (m0 : Int) = 8 := qa
  have qb' : (m1 : Int) = 2 ∨ (m1 : Int) = 4 ∨ (m1 : Int) = 8 := qb
  have q1 : 1 ≤ n0 := by have : (1 : Int) ≤ n0 := qc; omega
  have q2 : n0 ≤ 256 := by have : (n0 : Int) ≤ 16 := qd; omega
  have q3 : 1 ≤ d0 := by have : (1 : Int) ≤ d0 := qe; omega
  have q4 : d0 ≤ 256 := by have : (d0 : Int) ≤ 16 := qf; omega
  obtain ⟨m0', s0, e0, st0⟩ := Pg.okB_st (show Gp.okB (m0 : Int) = true by unfold Gp.okB; rcases qa' with e | e | e <;> rw [e] <;> rfl)
  obtain ⟨m1', s1, e1, st1⟩ := Pg.okB_st (show Gp.okB (m1 : Int) = true by unfold Gp.okB; rcases qb' with e | e | e <;> rw [e] <;> rfl)
  obtain rfl : m0 = m0' := by omega
  obtain rfl : m1 = m1' := by omega
  have EQ : Hid (Pg.rightH [(m0 : Int), m1, n0, d0, h4, h5, h6] = true) := hr
  have P1 : Hid (Pg.shapeB ks (d0 : Int) (n0 : Int) = true) := sk
  have P2 : Hid (Pg.shapeB vs (n0 : Int) (d0 : Int) = true) := sv
  have ST0 : Hid (Gp.St m0 s0) := st0
  have ST1 : Hid (Gp.St m1 s1) := st1
  have SK : Hid (∀ i, i < ks.length → (Pg.gc (Pg.nth ks i)).length = n0) := fun i hi => by have := (Pg.shapeB_all P1.out).1 i hi; omega
  have SV : Hid (∀ i, i < vs.length → (Pg.gc (Pg.nth vs i)).length = d0) := fun i hi => by have := (Pg.shapeB_all P2.out).1 i hi; omega
  have NK : Hid (ks.length = d0) := by show _ = _; have := (Pg.shapeB_all P1.out).2; omega
  have NV : Hid (vs.length = n0) := by show _ = _; have := (Pg.shapeB_all P2.out).2; omega
  have RK : Hid (Pg.rightsN (s0 : Int) ks ks.length = 0) := by rw [← Pg.top_st st0]; exact rk
  have RV : Hid (Pg.rightsN (s1 : Int) vs vs.length = 0) := by rw [← Pg.top_st st1]; exact rv
  have HP : Hid (Pg.Page [(m0 : Int), m1, n0, d0, h4, h5, h6] ks vs) := hp
  have FK : Hid (Pg.AllFit m0 n0 ks) := hp.2.2.2.2.1
  have FV : Hid (Pg.AllFit m1 d0 vs) := hp.2.2.2.2.2.1
  have Q0 : Hid (0 < ks.length) := by show 0 < ks.length; rw [NK.out]; omega
  have Q1 : Hid (0 < vs.length) := by show 0 < vs.length; rw [NV.out]; omega
  have OK0 : Hid (Pk.Ok m0) := St.ok st0
  have OK1 : Hid (Pk.Ok m1) := St.ok st1
  clear he hp hr sk sv rk rv qa qb qc qd qe qf qa' qb' e0 e1 st0 st1
  go_enter Tryz.func123, Tryz.ntmps123
  go_wp2_with fail
  obtain ⟨u0, hu0⟩ : ∃ u, w.alloc (.cells #[.int .i64 (m0 : Int), .int .i64 (m1 : Int), .int .i64 (n0 : Int), .int .i64 (d0 : Int), .int .i64 h4, .int .i64 h5, .int .i64 h6] 156) = u := ⟨_, rfl⟩
  have U0 : Hid (Below w.heap.size w u0) := by rw [← hu0]; exact box_below _ _
  have HD : Hid (∀ v, Below u0.heap.size u0 v → HdAt v w.heap.size m0 m1 n0 d0 h4 h5 h6) := by rw [← hu0]; exact fun v hb => hd_box hb
  rw [hu0]
  clear hu0
  refine (rightP_any _ _ _ _ _ _ _ true EQ.out _).mono ?_
  rintro r v0 ⟨rfl, hb⟩
  have B0 : Hid (Below u0.heap.size u0 v0) := hb
  obtain ⟨x0, x1, x2, x3, _, _, _⟩ := HD.out v0 B0.out
  clear hb
  go_wp2_with fail
  refine (groupsOf_any _ _ ks _ _ true _ (HA.out.keep (below_then U0.out B0.out)) LK.out P1.out).mono ?_
  rintro r v1 ⟨rfl, hb⟩
  clear x0 x1 x2 x3
  have B1 : Hid (Below u0.heap.size u0 v1) := below_then B0.out hb
  obtain ⟨x0, x1, x2, x3, _, _, _⟩ := HD.out v1 B1.out
  clear hb
  go_wp2_with fail
  refine (groupsOf_any _ _ vs _ _ true _ (HB.out.keep (below_then U0.out B1.out)) LV.out P2.out).mono ?_
  rintro r v2 ⟨rfl, hb⟩
  clear x0 x1 x2 x3
  have B2 : Hid (Below u0.heap.size u0 v2) := below_then B1.out hb
  obtain ⟨x0, x1, x2, x3, _, _, _⟩ := HD.out v2 B2.out
  clear hb
  go_wp2_with fail
  refine (allRight_any _ _ m0 s0 n0 ks 0 _ (HA.out.keep (below_then U0.out B2.out)) lk ST0.out SK.out q1 q2 IK.out RK.out).mono ?_
  rintro r v3 ⟨rfl, hb⟩
  clear x0 x1 x2 x3
  have B3 : Hid (Below u0.heap.size u0 v3) := below_then B2.out hb
  obtain ⟨x0, x1, x2, x3, _, _, _⟩ := HD.out v3 B3.out
  clear hb
  go_wp2_with fail
  refine (allRight_any _ _ m1 s1 d0 vs 0 _ (HB.out.keep (below_then U0.out B3.out)) lv ST1.out SV.out q3 q4 IV.out RV.out).mono ?_
  rintro r v4 ⟨rfl, hb⟩
  clear x0 x1 x2 x3
  have B4 : Hid (Below u0.heap.size u0 v4) := below_then B3.out hb
  obtain ⟨x0, x1, x2, x3, _, _, _⟩ := HD.out v4 B4.out
  clear hb
  go_wp2_with fail
  clear x0 x1 x2 x3
  have KS : Hid (∀ w', Below v4.heap.size v4 w' → HdAt w' w.heap.size m0 m1 n0 d0 h4 h5 h6 ∧ Hid (Below v4.heap.size v4 w')) := fun w' hb => ⟨HD.out w' (below_then B4.out hb), hb⟩
  unfold HdAt at KS
  go_region_held3 (fun w' => (w'.cell? ⟨w.heap.size, 0, none⟩ = some (.int .i64 (m0 : Int)) ∧ w'.cell? ⟨w.heap.size, 1, none⟩ = some (.int .i64 (m1 : Int)) ∧ w'.cell? ⟨w.heap.size, 2, none⟩ = some (.int .i64 (n0 : Int)) ∧ w'.cell? ⟨w.heap.size, 3, none⟩ = some (.int .i64 (d0 : Int)) ∧ w'.cell? ⟨w.heap.size, 4, none⟩ = some (.int .i64 h4) ∧ w'.cell? ⟨w.heap.size, 5, none⟩ = some (.int .i64 h5) ∧ w'.cell? ⟨w.heap.size, 6, none⟩ = some (.int .i64 h6)) ∧ Hid (Below v4.heap.size v4 w'))
    (first
      | exact KS.out _ ((Below.refl v4.heap.size v4).drew)
      | exact KS.out _ hbd.out
      | exact KS.out _ (below_then hbd.out (box_below _ _))
      | exact KS.out _ hbc.out
      | assumption)
    (first
      | (go_at_call 141; (with_reducible refine (packAll_z _ _ m0 n0 ks _ (HA.out.keep (below_then (below_then U0.out B4.out) ((Below.refl v4.heap.size v4).drew))) lk OK0.out FK.out q2).mono ?_); rintro e v5 ⟨g1, rfl, hg1, hk1, hn1, hb⟩; have hbc : Hid (Below v4.heap.size v4 v5) := ((Below.refl v4.heap.size v4).drew).trans hb; have K1 : Hid (Pks v5 g1 m0 ks) := hk1; have N1 : Hid (PkN v5 g1 ∧ v4.heap.size ≤ g1 ∧ g1 < v5.heap.size) := ⟨hn1, hg1, PkN.lt hk1 Q0.out⟩; clear hb hg1 hk1 hn1)
      | (go_at_call 141; (with_reducible refine (packAll_z _ _ m1 d0 vs _ (HB.out.keep (below_then (below_then U0.out B4.out) hbc.out)) lv OK1.out FV.out q4).mono ?_); rintro e v6 ⟨g2, rfl, hg2, hk2, hn2, hb⟩; have hbd : Hid (Below v4.heap.size v4 v6) := below_then hbc.out hb; have K2 : Hid (Pks v6 g1 m0 ks ∧ Pks v6 g2 m1 vs) := ⟨K1.out.keep hb, hk2⟩; have N2 : Hid ((PkN v6 g1 ∧ v4.heap.size ≤ g1 ∧ g1 < v6.heap.size) ∧ PkN v6 g2 ∧ v4.heap.size ≤ g2 ∧ g2 < v6.heap.size) := ⟨⟨N1.out.1.keep N1.out.2.2 hb, N1.out.2.1, Nat.lt_of_lt_of_le N1.out.2.2 hb.size⟩, hn2, Nat.le_trans hbc.out.size hg2, PkN.lt hk2 Q1.out⟩; clear hb hg2 hk2 hn2))
  go_wp2
  go_ret2
  have B6 : Below w.heap.size w v6 := below_then U0.out (below_then B4.out hbd.out)
  have SZ : w.heap.size ≤ v4.heap.size := (below_then U0.out B4.out).size
  have ROW : (v6.alloc (.cells #[.int .i64 (m0 : Int), .int .i64 (m1 : Int), .int .i64 (n0 : Int), .int .i64 (d0 : Int), .int .i64 h4, .int .i64 h5, .int .i64 h6, .slice (some ⟨g1, 0, none⟩) ks.length ks.length, .slice (some ⟨g2, 0, none⟩) vs.length vs.length] 176)).rowIs v6.heap.size 176 9 (pgc m0 m1 n0 d0 h4 h5 h6 (.slice (some ⟨g1, 0, none⟩) d0 d0) (.slice (some ⟨g2, 0, none⟩) n0 n0)) := by
    rw [NK.out, NV.out]
    exact World.rowIs_alloc v6 _ 176 _ (fun i hi => by match i, hi with | 0, _ => rfl | 1, _ => rfl | 2, _ => rfl | 3, _ => rfl | 4, _ => rfl | 5, _ => rfl | 6, _ => rfl | 7, _ => rfl | 8, _ => rfl)
  refine ⟨v6.heap.size, rfl, B6.size, ⟨g1, g2, ROW, K2.out.1.keep (box_below _ _), K2.out.2.keep (box_below _ _), HP.out⟩, ⟨B6.size, fun a n c e => ?_⟩, below_then B6 (box_below _ _)⟩
  rw [ROW.cell (show 7 < 9 by decide), ROW.cell (show 8 < 9 by decide)] at e
  obtain ⟨⟨n1, z1, l1⟩, n2, z2, l2⟩ := N2.out
  rcases e with e | e
  · cases e
    exact ⟨by show w.heap.size ≤ g1; omega, n1.keep l1 (box_below _ _)⟩
  · cases e
    exact ⟨by show w.heap.size ≤ g2; omega, n2.keep l2 (box_below _ _)⟩
theorem newP_zm (m0 m1 n0 d0 : Nat) (h4 h5 h6 : Int) (a1 a2 : Option Addr) (k1 k2 c1 c2 : Nat) (ks vs : List (Int × Int × List Int)) (w : World) (e1 : k1 = ks.length) (e2 : k2 = vs.length) (ha : Gps w a1 ks) (hb : Gps w a2 vs) (hp : Pg.Page [(m0 : Int), m1, n0, d0, h4, h5, h6] ks vs) :
    Calls Tryz.prog 123 #[.agg #[.int .i64 (m0 : Int), .int .i64 (m1 : Int), .int .i64 (n0 : Int), .int .i64 (d0 : Int), .int .i64 h4, .int .i64 h5, .int .i64 h6], .slice a1 k1 c1, .slice a2 k2 c2] w fun r w' => ∃ p, r = .returned (.tuple #[.pointer (some ⟨p, 0, none⟩), .int .i64 0]) ∧ w.heap.size ≤ p ∧ PageAt w' p m0 m1 n0 d0 h4 h5 h6 ks vs ∧ PgN w.heap.size w' p ∧ Below w.heap.size w w' := by
  subst e1 e2
  obtain ⟨_, _, qc, qd, qe, qf, _⟩ := Pg.rightH_all hp.2.1
  have qd' : (n0 : Int) ≤ 16 := qd
  have qf' : (d0 : Int) ≤ 16 := qf
  have lk : ks.length = d0 := hp.2.2.1
  have lv : vs.length = n0 := hp.2.2.2.1
  exact newP_z m0 m1 n0 d0 h4 h5 h6 a1 a2 c1 c2 ks vs w ha hb (by omega) (by omega) (Pg.fit_ing hp.2.2.2.2.1 (show n0 ≤ maxLen by unfold maxLen; omega)) (Pg.fit_ing hp.2.2.2.2.2.1 (show d0 ≤ maxLen by unfold maxLen; omega)) (Pg.page_newE hp)
set_option maxRecDepth 100000 in
set_option maxHeartbeats 1600000 in
theorem quantP_z (m0 m1 n0 d0 s0 s1 : Nat) (h4 h5 h6 : Int) (a1 a2 : Option Addr) (c1 c2 : Nat) (ks vs : List (List Int)) (w : World) (st0 : Gp.St m0 s0) (st1 : Gp.St m1 s1)
    (hk : Tbl w a1 ks) (hv : Tbl w a2 vs) (ik : ∀ k, Ls.In32 (Tb.row ks k)) (iv : ∀ k, Ls.In32 (Tb.row vs k)) (hr : Pg.rightH [(m0 : Int), m1, n0, d0, h4, h5, h6] = true) (sk : Pg.shapedB ks n0 d0 = true) (sv : Pg.shapedB vs n0 d0 = true) :
    Calls Tryz.prog 98 #[.agg #[.int .i64 (m0 : Int), .int .i64 (m1 : Int), .int .i64 (n0 : Int), .int .i64 (d0 : Int), .int .i64 h4, .int .i64 h5, .int .i64 h6], .slice a1 ks.length c1, .slice a2 vs.length c2] w fun r w' => ∃ p, r = .returned (.tuple #[.pointer (some ⟨p, 0, none⟩), .int .i64 0]) ∧ w.heap.size ≤ p ∧ PageAt w' p m0 m1 n0 d0 h4 h5 h6 (Pg.qk s0 d0 ks) (Pg.qv s1 vs) ∧ PgN w.heap.size w' p ∧ Below w.heap.size w w' := by
  have HA : Hid (Tbl w a1 ks) := hk
  have HB : Hid (Tbl w a2 vs) := hv
  have IK : Hid (∀ k, Ls.In32 (Tb.row ks k)) := ik
  have IV : Hid (∀ k, Ls.In32 (Tb.row vs k)) := iv
  have EQ : Hid (Pg.rightH [(m0 : Int), m1, n0, d0, h4, h5, h6] = true) := hr
  have P1 : Hid (Pg.shapedB ks (n0 : Int) (d0 : Int) = true) := sk
  have P2 : Hid (Pg.shapedB vs (n0 : Int) (d0 : Int) = true) := sv
  have ST0 : Hid (Gp.St m0 s0) := st0
  have ST1 : Hid (Gp.St m1 s1) := st1
  unfold Pg.shapedB at sk sv
  simp only [decide_eq_true_eq] at sk sv
  obtain ⟨_, _, qc, qd, qe, qf, _⟩ := Pg.rightH_all hr
  have qc' : (1 : Int) ≤ n0 := qc
  have qd' : (n0 : Int) ≤ 16 := qd
  have qe' : (1 : Int) ≤ d0 := qe
  have qf' : (d0 : Int) ≤ 16 := qf
  have b1 : 1 ≤ n0 := by omega
  have b2 : n0 ≤ 16 := by omega
  have b3 : 1 ≤ d0 := by omega
  have b4 : d0 ≤ 16 := by omega
  have NK : Hid (ks.length = n0) := by show _ = _; have := sk.2; omega
  have NV : Hid (vs.length = n0) := by show _ = _; have := sv.2; omega
  have RK : Hid (∀ k, k < ks.length → (Tb.row ks k).length = d0) := fun k hk => by have := sk.1 k hk; omega
  have RV : Hid (∀ k, k < vs.length → (Tb.row vs k).length = d0) := fun k hk => by have := sv.1 k hk; omega
  have lk : ks.length ≤ 256 := by rw [NK.out]; omega
  have lv : vs.length ≤ 256 := by rw [NV.out]; omega
  have LK : Hid (ks.length ≤ maxLen) := by show ks.length ≤ maxLen; unfold maxLen; omega
  have LV : Hid (vs.length ≤ maxLen) := by show vs.length ≤ maxLen; unfold maxLen; omega
  have HP : Hid (Pg.Page [(m0 : Int), m1, n0, d0, h4, h5, h6] (Pg.qk s0 d0 ks) (Pg.qv s1 vs)) := Pg.quant_page (h := [(m0 : Int), m1, n0, d0, h4, h5, h6]) rfl hr rfl rfl st0 st1 ik iv sk.2 sv.2 sv.1
  have XK : Hid (∀ k, Ls.In32 (Tb.row (Pg.cols d0 ks) k)) := fun k => by
    by_cases e : k < d0
    · rw [Pg.row_cols e]; exact Pg.col_in ik k
    · rw [Tb.row_past (by rw [Pg.cols_length]; omega)]; intro i; rw [Ls.nth_nil]; omega
  have CL : Hid (d0 = (Pg.cols d0 ks).length) := (Pg.cols_length _ _).symm
  have CR : Hid (∀ k, k < (Pg.cols d0 ks).length → (Tb.row (Pg.cols d0 ks) k).length = n0) := fun k hk => by
    rw [Pg.cols_length] at hk
    rw [Pg.row_cols hk, Pg.col_length]
    exact NK.out
  clear hk hv ik iv hr sk sv st0 st1 qc qd qe qf qc' qd' qe' qf'
  go_enter Tryz.func98, Tryz.ntmps98
  go_wp2_with fail
  obtain ⟨u0, hu0⟩ : ∃ u, w.alloc (.cells #[.int .i64 (m0 : Int), .int .i64 (m1 : Int), .int .i64 (n0 : Int), .int .i64 (d0 : Int), .int .i64 h4, .int .i64 h5, .int .i64 h6] 156) = u := ⟨_, rfl⟩
  have U0 : Hid (Below w.heap.size w u0) := by rw [← hu0]; exact box_below _ _
  have HD : Hid (∀ v, Below u0.heap.size u0 v → HdAt v w.heap.size m0 m1 n0 d0 h4 h5 h6) := by rw [← hu0]; exact fun v hb => hd_box hb
  rw [hu0]
  clear hu0
  refine (rightP_any _ _ _ _ _ _ _ true EQ.out _).mono ?_
  rintro r v0 ⟨rfl, hb⟩
  have B0 : Hid (Below u0.heap.size u0 v0) := hb
  obtain ⟨x0, x1, x2, x3, _, _, _⟩ := HD.out v0 B0.out
  clear hb
  go_wp2_with fail
  refine (listsOf_any _ _ ks _ _ true _ (HA.out.keep (below_then U0.out B0.out)) LK.out P1.out).mono ?_
  rintro r v ⟨rfl, hw⟩
  cases hw.symm
  clear hw
  go_wp2_with fail
  refine (listsOf_any _ _ vs _ _ true _ (HB.out.keep (below_then U0.out B0.out)) LV.out P2.out).mono ?_
  rintro r v ⟨rfl, hw⟩
  cases hw.symm
  clear hw
  go_wp2_with fail
  clear x0 x1 x2 x3
  have KS : Hid (∀ w', Below v0.heap.size v0 w' → HdAt w' w.heap.size m0 m1 n0 d0 h4 h5 h6 ∧ Hid (Below v0.heap.size v0 w')) := fun w' hb => ⟨HD.out w' (below_then B0.out hb), hb⟩
  unfold HdAt at KS
  have BW : Hid (Below w.heap.size w v0) := below_then U0.out B0.out
  go_region_held3 (fun w' => (w'.cell? ⟨w.heap.size, 0, none⟩ = some (.int .i64 (m0 : Int)) ∧ w'.cell? ⟨w.heap.size, 1, none⟩ = some (.int .i64 (m1 : Int)) ∧ w'.cell? ⟨w.heap.size, 2, none⟩ = some (.int .i64 (n0 : Int)) ∧ w'.cell? ⟨w.heap.size, 3, none⟩ = some (.int .i64 (d0 : Int)) ∧ w'.cell? ⟨w.heap.size, 4, none⟩ = some (.int .i64 h4) ∧ w'.cell? ⟨w.heap.size, 5, none⟩ = some (.int .i64 h5) ∧ w'.cell? ⟨w.heap.size, 6, none⟩ = some (.int .i64 h6)) ∧ Hid (Below v0.heap.size v0 w'))
    (first
      | exact KS.out _ ((Below.refl v0.heap.size v0).drew)
      | exact KS.out _ b4'.out
      | exact KS.out _ b3'.out
      | exact KS.out _ b2'.out
      | exact KS.out _ b1'.out
      | assumption)
    (first
      | (go_at_call 125; refine (turned_any _ _ d0 ks _ (HA.out.keep (below_then BW.out ((Below.refl v0.heap.size v0).drew))) lk (by omega) RK.out).mono ?_; rintro e v1 ⟨g1, rfl, hg1, ht1, hb⟩; have b1' : Hid (Below v0.heap.size v0 v1) := ((Below.refl v0.heap.size v0).drew).trans hb; have T1 : Hid (Tbl v1 (some ⟨g1, 0, none⟩) (Pg.cols d0 ks)) := ht1; clear hb hg1 ht1)
      | (go_at_call 124; (with_reducible refine (groupAll_anym (some ⟨g1, 0, none⟩) d0 _ m0 s0 n0 (Pg.cols d0 ks) _ CL.out T1.out (by rw [← CL.out]; omega) ST0.out XK.out CR.out b1 (by omega)).mono ?_); rintro e v2 ⟨g2, rfl, hg2, ht2, hb⟩; have b2' : Hid (Below v0.heap.size v0 v2) := below_then b1'.out hb; have T2 : Hid (Gps v2 (some ⟨g2, 0, none⟩) (Pg.qk s0 d0 ks)) := (by rw [← Pg.qv_cols]; exact ht2); clear hb hg2 ht2)
      | (go_at_call 124; (with_reducible refine (groupAll_anym a2 _ _ m1 s1 d0 vs _ rfl (HB.out.keep (below_then BW.out b2'.out)) lv ST1.out IV.out RV.out b3 (by omega)).mono ?_); rintro e v3 ⟨g3, rfl, hg3, ht3, hb⟩; have b3' : Hid (Below v0.heap.size v0 v3) := below_then b2'.out hb; have T3 : Hid (Gps v3 (some ⟨g2, 0, none⟩) (Pg.qk s0 d0 ks) ∧ Gps v3 (some ⟨g3, 0, none⟩) (Pg.qv s1 vs)) := ⟨T2.out.keep hb, ht3⟩; clear hb hg3 ht3)
      | (go_at_call 123; refine (newP_zm m0 m1 n0 d0 h4 h5 h6 _ _ _ _ _ _ (Pg.qk s0 d0 ks) (Pg.qv s1 vs) _ (Pg.qk_length _ _ _).symm (Pg.qv_length _ _).symm T3.out.1 T3.out.2 HP.out).mono ?_; rintro e v4 ⟨p, rfl, hp, hpa, hpn, hb⟩; have b4' : Hid (Below v0.heap.size v0 v4) := below_then b3'.out hb; have PA : Hid (v3.heap.size ≤ p ∧ PageAt v4 p m0 m1 n0 d0 h4 h5 h6 (Pg.qk s0 d0 ks) (Pg.qv s1 vs)) := ⟨hp, hpa⟩; have PN : Hid (PgN v3.heap.size v4 p) := hpn; clear hb hp hpa hpn))
  go_wp2
  go_ret2
  exact ⟨p, rfl, Nat.le_trans (below_then BW.out b3'.out).size PA.out.1, PA.out.2, ⟨Nat.le_trans (below_then BW.out b3'.out).size PN.out.1, fun a n c e => ⟨Nat.le_trans (below_then BW.out b3'.out).size (PN.out.2 a n c e).1, (PN.out.2 a n c e).2⟩⟩, below_then BW.out b4'.out⟩
end Go.Proofs.YtnchnlgnnlgjcaaGreat
