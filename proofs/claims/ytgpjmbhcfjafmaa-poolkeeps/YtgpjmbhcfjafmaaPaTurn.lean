/- Contracts of package page: lists turned, lists grouped. -/
import Derived.Test.YtgpjmbhcfjafmaaPaNew
import Derived.Test.YtgpjmbhcfjafmaaGpOf
namespace Go.Proofs.Ytgpjmbhcfjafmaa
set_option linter.unusedVariables false
open Go.RowKit
attribute [local go_sem ↓] Go.wp_at_zero Go.wp_at_succ

/-- A TABLE AT BLOCK g, its first k rows made: each lies behind the table, below block B. -/
def TRow (w : World) (g : Nat) (t : TypeId) (N : Nat) (ls : List (List Int)) (k B : Nat) : Prop :=
  ∃ f, w.rowIs g t N f ∧ ∀ i, i < k → ∃ b, f i = .slice (some ⟨b, 0, none⟩) (Tb.row ls i).length (Tb.row ls i).length ∧ g < b ∧ b < B ∧ w.rowIs b 21 (Tb.row ls i).length (fun j => .int .i32 (Ls.nth (Tb.row ls i) j))
theorem TRow.keep {w w' : World} {g : Nat} {t : TypeId} {N : Nat} {ls : List (List Int)} {k B : Nat} (h : TRow w g t N ls k B) (hb : Below w.heap.size w w') : TRow w' g t N ls k B := by
  obtain ⟨f, hr, hc⟩ := h
  refine ⟨f, row_keep hr hb, fun i hi => ?_⟩
  obtain ⟨b, h0, h1, h2, h3⟩ := hc i hi
  exact ⟨b, h0, h1, h2, row_keep h3 hb⟩
theorem TRow.mono {w : World} {g : Nat} {t : TypeId} {N : Nat} {ls : List (List Int)} {k B B' : Nat} (h : TRow w g t N ls k B) (hB : B ≤ B') : TRow w g t N ls k B' := by
  obtain ⟨f, hr, hc⟩ := h
  refine ⟨f, hr, fun i hi => ?_⟩
  obtain ⟨b, h0, h1, h2, h3⟩ := hc i hi
  exact ⟨b, h0, h1, by omega, h3⟩
theorem TRow.drew {w : World} {g : Nat} {t : TypeId} {N : Nat} {ls : List (List Int)} {k B : Nat} (h : TRow w g t N ls k B) : TRow w.drew g t N ls k B := h.keep ((Below.refl _ _).drew)
theorem TRow.lt {w : World} {g : Nat} {t : TypeId} {N : Nat} {ls : List (List Int)} {k B : Nat} (h : TRow w g t N ls k B) : g < w.heap.size := by
  obtain ⟨f, hr, _⟩ := h
  exact hr.lt
theorem TRow.room {w : World} {g : Nat} {t : TypeId} {N : Nat} {ls : List (List Int)} {k B : Nat} (h : TRow w g t N ls k B) : ∃ f, w.rowIs g t N f := by
  obtain ⟨f, hr, _⟩ := h
  exact ⟨f, hr⟩
/-- A store into a row that is not one of them. -/
theorem TRow.other {w : World} {g : Nat} {t : TypeId} {N : Nat} {ls : List (List Int)} {k B : Nat} (h : TRow w g t N ls k B) {R o : Nat} (hg : g < R) (hB : B ≤ R) (v : Value) : TRow (w.setCell ⟨R, o, none⟩ v) g t N ls k B := by
  obtain ⟨f, hr, hc⟩ := h
  refine ⟨f, hr.setOther (by show g ≠ R; omega) _, fun i hi => ?_⟩
  obtain ⟨b, h0, h1, h2, h3⟩ := hc i hi
  exact ⟨b, h0, h1, h2, h3.setOther (by show b ≠ R; omega) _⟩
/-- The next row's place is written. -/
theorem TRow.top {w : World} {g : Nat} {t : TypeId} {N : Nat} {ls : List (List Int)} {k B : Nat} (h : TRow w g t N ls k B) (hk : k < N) (v : Value) : TRow (w.setCell ⟨g, k, none⟩ v) g t N ls k B ∧ (w.setCell ⟨g, k, none⟩ v).cell? ⟨g, k, none⟩ = some v := by
  obtain ⟨f, hr, hc⟩ := h
  have hs := hr.set k v
  refine ⟨⟨_, hs, fun i hi => ?_⟩, by rw [hs.cell hk, if_pos rfl]⟩
  obtain ⟨b, h0, h1, h2, h3⟩ := hc i hi
  exact ⟨b, by rw [if_neg (by omega)]; exact h0, h1, h2, h3.setOther (by show b ≠ g; omega) _⟩
theorem TRow.close {w : World} {g : Nat} {t : TypeId} {N : Nat} {ls : List (List Int)} {k B : Nat} (h : TRow w g t N ls k B) (hk : k < N) {R n : Nat} (hc : w.cell? ⟨g, k, none⟩ = some (.slice (some ⟨R, 0, none⟩) n n)) (hg : g < R) (hB : B ≤ R) (hn : (Tb.row ls k).length = n) {f : Nat → Value} (hr : w.rowIs R 21 n f) (hf : ∀ j, j < n → f j = .int .i32 (Ls.nth (Tb.row ls k) j)) : TRow w g t N ls (k + 1) (R + 1) := by
  obtain ⟨f', hr', hc'⟩ := h
  refine ⟨f', hr', fun i hi => ?_⟩
  by_cases e : i = k
  · subst e
    refine ⟨R, ?_, hg, by omega, ?_⟩
    · rw [hr'.cell hk] at hc
      rw [hn]
      exact Option.some.inj hc
    · rw [hn]
      exact hr.congr hf
  · obtain ⟨b, h0, h1, h2, h3⟩ := hc' i (by omega)
    exact ⟨b, h0, h1, by omega, h3⟩
theorem TRow.tbl {w : World} {g : Nat} {t : TypeId} {N : Nat} {ls : List (List Int)} {B : Nat} (h : TRow w g t N ls ls.length B) (hN : N = ls.length) (hm : ∀ i, i < ls.length → (Tb.row ls i).length ≤ maxLen) : Tbl w (some ⟨g, 0, none⟩) ls := by
  obtain ⟨f, hr, hc⟩ := h
  intro i hi
  obtain ⟨b, h0, h1, h2, h3⟩ := hc i hi
  refine ⟨g, 0, some ⟨b, 0, none⟩, (Tb.row ls i).length, rfl, ?_, lst_of_row h3 (fun j hj => rfl), hm i hi⟩
  rw [Nat.zero_add, hr.cell (by omega), h0]

theorem Try.infoRow32 : (Try.prog.info? 74).map (fun i => (i.zero, i.size, i.bytes)) = some (some (.slice none 0 0), 1, 24) := by kernel_rfl
/-- The columns of a table. -/
def Pg.cols (d : Nat) (ls : List (List Int)) : List (List Int) := (List.range d).map (Pg.col ls)
theorem Pg.cols_length (d : Nat) (ls : List (List Int)) : (Pg.cols d ls).length = d := by simp [Pg.cols]
theorem Pg.row_cols {d i : Nat} {ls : List (List Int)} (h : i < d) : Tb.row (Pg.cols d ls) i = Pg.col ls i := Tb.row_map_range _ h

set_option maxRecDepth 100000 in
set_option maxHeartbeats 1600000 in
theorem turned_any (a : Option Addr) (c d : Nat) (ls : List (List Int)) (w : World) (ha : Tbl w a ls) (hl : ls.length ≤ 256) (hd : d ≤ 256) (hr : ∀ k, k < ls.length → (Tb.row ls k).length = d) :
    Calls Try.prog 40 #[.slice a ls.length c, .int .i64 d] w fun e w' => ∃ g, e = .returned (.slice (some ⟨g, 0, none⟩) d d) ∧ w.heap.size ≤ g ∧ Tbl w' (some ⟨g, 0, none⟩) (Pg.cols d ls) ∧ Below w.heap.size w w' := by
  have HA : Hid (Tbl w a ls) := ha
  have HL : Hid (∀ k, k < ls.length → (Tb.row ls k).length = d) := hr
  clear ha hr
  have hmk := run_make_row' (P := Try.prog) 75 74 (.slice none 0 0) 24 Try.underlying75 Try.infoRow32 rfl .i64 .i64 d (by omega) (by omega)
  have hmr := run_make_row' (P := Try.prog) 74 21 (.int .i32 0) 4 Try.underlying74 Try.infoInt32 rfl .i64 .i64 ls.length (by omega) (by omega)
  go_enter Try.func40, Try.ntmps40
  go_wp2
  clear hmk
  go_loopw [13] (fun i wr => ∃ k : Nat, k ≤ d ∧ i = .int .i64 k ∧ TRow wr w.heap.size 74 d (Pg.cols d ls) k wr.heap.size ∧ Below w.heap.size w wr) (fun i _ => d - (intOf i).toNat)
  case atStart => exact ⟨0, Nat.zero_le _, rfl, ⟨_, World.rowIs_made w (.slice none 0 0) d 74, fun i hi => by omega⟩, (Below.refl _ _).alloc (Nat.le_refl _) _⟩
  case round =>
    obtain ⟨k, hk, rfl, hrow, hbel⟩ := hrel
    by_cases hlt : k < d
    · obtain ⟨S, eS⟩ : ∃ S, wr.heap.size = S := ⟨_, rfl⟩
      have hgS : w.heap.size < S := by rw [← eS]; exact hrow.lt
      obtain ⟨f, hr⟩ := hrow.room
      have r0 := hr.cell hlt
      have s0 := hr.frozen k
      rw [eS] at hrow
      have hmr2 := hmr wr
      rw [eS] at hmr2
      obtain ⟨T1, C1⟩ := hrow.top hlt (.slice (some ⟨S, 0, none⟩) ls.length ls.length)
      have eS2 : (wr.setCell ⟨w.heap.size, k, none⟩ (.slice (some ⟨S, 0, none⟩) ls.length ls.length)).heap.size = S := by rw [← eS]; simp [World.setCell]
      have C2 : ((wr.setCell ⟨w.heap.size, k, none⟩ (.slice (some ⟨S, 0, none⟩) ls.length ls.length)).alloc (.cells (madeCells #[.int .i32 0] ls.length) 21)).cell? ⟨w.heap.size, k, none⟩ = some (.slice (some ⟨S, 0, none⟩) ls.length ls.length) := by
        rw [(box_below _ _).cell (p := ⟨w.heap.size, k, none⟩) (by rw [eS2]; exact hgS)]
        exact C1
      have R1 : ((wr.setCell ⟨w.heap.size, k, none⟩ (.slice (some ⟨S, 0, none⟩) ls.length ls.length)).alloc (.cells (madeCells #[.int .i32 0] ls.length) 21)).rowIs S 21 ls.length (fun _ => .int .i32 0) := by
        have := World.rowIs_made (wr.setCell ⟨w.heap.size, k, none⟩ (.slice (some ⟨S, 0, none⟩) ls.length ls.length)) (.int .i32 0) ls.length 21
        rw [eS2] at this
        exact this
      have B1 : Below w.heap.size w ((wr.setCell ⟨w.heap.size, k, none⟩ (.slice (some ⟨S, 0, none⟩) ls.length ls.length)).alloc (.cells (madeCells #[.int .i32 0] ls.length) 21)) := (hbel.setCell (by simp) _).alloc (by rw [eS2]; omega) _
      have ALL : Hid (TRow ((wr.setCell ⟨w.heap.size, k, none⟩ (.slice (some ⟨S, 0, none⟩) ls.length ls.length)).alloc (.cells (madeCells #[.int .i32 0] ls.length) 21)) w.heap.size 74 d (Pg.cols d ls) k S ∧ ((wr.setCell ⟨w.heap.size, k, none⟩ (.slice (some ⟨S, 0, none⟩) ls.length ls.length)).alloc (.cells (madeCells #[.int .i32 0] ls.length) 21)).cell? ⟨w.heap.size, k, none⟩ = some (.slice (some ⟨S, 0, none⟩) ls.length ls.length) ∧ ((wr.setCell ⟨w.heap.size, k, none⟩ (.slice (some ⟨S, 0, none⟩) ls.length ls.length)).alloc (.cells (madeCells #[.int .i32 0] ls.length) 21)).rowIs S 21 ls.length (fun _ => .int .i32 0) ∧ Below w.heap.size w ((wr.setCell ⟨w.heap.size, k, none⟩ (.slice (some ⟨S, 0, none⟩) ls.length ls.length)).alloc (.cells (madeCells #[.int .i32 0] ls.length) 21))) := ⟨T1.keep (box_below _ _), C2, R1, B1⟩
      clear eS2 C2
      clear T1 C1 R1 B1 hrow hbel hr hmr
      go_wp2
      clear hmr2 r0 s0
      go_loopw [24] (fun i wr => ∃ j : Nat, j ≤ ls.length ∧ i = .int .i64 j ∧ TRow wr w.heap.size 74 d (Pg.cols d ls) k S ∧ wr.cell? ⟨w.heap.size, k, none⟩ = some (.slice (some ⟨S, 0, none⟩) ls.length ls.length) ∧ wr.rowIs S 21 ls.length (part (fun q => Ls.nth (Tb.row ls q) k) j) ∧ Below w.heap.size w wr) (fun i _ => ls.length - (intOf i).toNat)
      case atStart => exact ⟨0, Nat.zero_le _, rfl, ALL.out.1, ALL.out.2.1, ALL.out.2.2.1.congr (fun j hj => by simp [part]), ALL.out.2.2.2⟩
      case round =>
        clear ALL eS
        obtain ⟨j, hj, rfl, htop, hcl, hrow, hbel⟩ := hrel
        by_cases hjl : j < ls.length
        · obtain ⟨b1, o1, rfl, hc1⟩ := (HA.out.keep hbel).get hjl
          obtain ⟨A, C, hck, hLk, _⟩ := hc1 j hjl
          have hlen := HL.out j hjl
          obtain ⟨b2, o2, rfl, hc2⟩ := hLk.get (show k < (Tb.row ls j).length by rw [hlen]; exact hlt)
          have hckk := hc2 k (by rw [hlen]; exact hlt)
          rw [hlen] at hck
          have hcg := hrow.cell hjl
          have hfg := hrow.frozen j
          have HR : Hid (wr.rowIs S 21 ls.length (part (fun q => Ls.nth (Tb.row ls q) k) j)) := hrow
          have HB : Hid (Below w.heap.size w wr) := hbel
          have HT : Hid (TRow wr w.heap.size 74 d (Pg.cols d ls) k S) := htop
          have HC : Hid (wr.cell? ⟨w.heap.size, k, none⟩ = some (.slice (some ⟨S, 0, none⟩) ls.length ls.length)) := hcl
          clear hc1 hc2 hLk hlen hrow hbel htop
          have e0 : (0 : Int) ≤ (j : Int) := by omega
          have e1 : (j : Int) < (ls.length : Int) := by omega
          have e2 : (0 : Int) ≤ (k : Int) := by omega
          have e3 : (k : Int) < (d : Int) := by omega
          go_wp2
          go_region
          all_goals go_wp2
          all_goals go_roundw
          case rel =>
            refine ⟨j + 1, by omega, by go_num, (HT.out.other (by omega) (Nat.le_refl _) _).drew, ?_, (HR.out.set j _).drew.congr (fun q hq => part_set _ j q), (HB.out.setCell (by show w.heap.size ≤ S; omega) _).drew⟩
            show (wr.setCell ⟨S, j, none⟩ _).cell? ⟨w.heap.size, k, none⟩ = _
            rw [World.cell?_of_block (w := wr) (Go.Deep.blk_setCell_other _ _ _ _ (by show w.heap.size ≠ S; omega))]
            exact HC.out
          case measure => simp [intOf]; omega
        · have ej : j = ls.length := by omega
          subst ej
          have TT : Hid (TRow wr w.heap.size 74 d (Pg.cols d ls) (k + 1) wr.heap.size) := (htop.close hlt hcl (by omega) (Nat.le_refl _) (by rw [Pg.row_cols hlt, Pg.col_length]) hrow (fun q hq => by rw [part_lt hq, Pg.row_cols hlt, Pg.nth_col hq])).mono (by have := hrow.lt; omega)
          have HB : Hid (Below w.heap.size w wr) := hbel
          clear htop hcl hrow hbel
          go_wp2
          go_roundw
          case rel => exact ⟨k + 1, by omega, by go_num, TT.out, HB.out⟩
          case measure => simp [intOf]; omega
    · have e : k = d := by omega
      subst e
      have T : Hid (Tbl wr (some ⟨w.heap.size, 0, none⟩) (Pg.cols k ls)) := by
        refine TRow.tbl (N := k) (t := 74) (B := wr.heap.size) (by rw [Pg.cols_length]; exact hrow) (Pg.cols_length _ _).symm (fun i hi => ?_)
        rw [Pg.cols_length] at hi
        rw [Pg.row_cols hi, Pg.col_length]
        unfold maxLen
        omega
      have HB : Hid (Below w.heap.size w wr) := hbel
      clear hrow hbel hmr
      go_wp2
      go_ret
      exact ⟨w.heap.size, rfl, Nat.le_refl _, T.out, HB.out⟩

set_option maxHeartbeats 1600000 in
theorem groupAll_any (a : Option Addr) (c b s n : Nat) (ls : List (List Int)) (w : World) (ha : Tbl w a ls) (hl : ls.length ≤ 256) (hst : Gp.St b s) (hx : ∀ k, Ls.In32 (Tb.row ls k)) (hr : ∀ k, k < ls.length → (Tb.row ls k).length = n) (h1 : 1 ≤ n) (h2 : n ≤ 256) :
    Calls Try.prog 39 #[.slice a ls.length c, .int .i64 b] w fun e w' => ∃ g, e = .returned (.slice (some ⟨g, 0, none⟩) ls.length ls.length) ∧ w.heap.size ≤ g ∧ Gps w' (some ⟨g, 0, none⟩) (Pg.qv s ls) ∧ Below w.heap.size w w' := by
  have HA : Hid (Tbl w a ls) := ha
  have HL : Hid (∀ k, k < ls.length → (Tb.row ls k).length = n) := hr
  have HX : Hid (∀ k, Ls.In32 (Tb.row ls k)) := hx
  have ST : Hid (Gp.St b s) := hst
  clear ha hr hx hst
  have hmk := run_make_rows (P := Try.prog) 88 97 (.agg #[.int .i32 0, .int .u32 0, .slice none 0 0]) #[.int .i32 0, .int .u32 0, .slice none 0 0] 3 32 rfl Try.underlying88 Try.infoGp .i64 .i64 ls.length (by omega) (by omega)
  go_enter Try.func39, Try.ntmps39
  go_wp2
  clear hmk
  go_loopw [13] (fun i wr => ∃ k : Nat, k ≤ ls.length ∧ i = .int .i64 k ∧ GRow wr w.heap.size 97 (ls.length * 3) (Pg.qv s ls) k ∧ Below w.heap.size w wr) (fun i _ => ls.length - (intOf i).toNat)
  case atStart => exact ⟨0, Nat.zero_le _, rfl, GRow.made w _ _ _ _, (Below.refl _ _).alloc (Nat.le_refl _) _⟩
  case round =>
    obtain ⟨k, hk, rfl, hrow, hbel⟩ := hrel
    have HR : Hid (GRow wr w.heap.size 97 (ls.length * 3) (Pg.qv s ls) k) := hrow
    have HW : Hid (Below w.heap.size w wr) := hbel
    have hlt0 := hrow.lt
    clear hrow hbel
    by_cases hlt : k < ls.length
    · obtain ⟨b1, o1, rfl, hc1⟩ := (HA.out.keep HW.out).get hlt
      obtain ⟨A, C, hck, hLk, _⟩ := hc1 k hlt
      have LK : Hid (Lst .i32 wr A (Tb.row ls k)) := hLk
      have hlen := HL.out k hlt
      have NK : Hid ((Tb.row ls k).length = n) := hlen
      obtain ⟨z, ez⟩ : ∃ z, Gp.low (Tb.row ls k) = z := ⟨_, rfl⟩
      obtain ⟨sc, es⟩ : ∃ z, Gp.scale s (Tb.row ls k) = z := ⟨_, rfl⟩
      have EG : Hid (Pg.nth (Pg.qv s ls) k = (z, sc, Gp.codes z sc (Tb.row ls k))) := by show _ = _; rw [Pg.nth_qv hlt]; unfold Pg.grp; rw [ez, es]
      have EZ : Hid (Gp.low (Tb.row ls k) = z) := ez
      have ES : Hid (Gp.scale s (Tb.row ls k) = sc) := es
      clear hc1 hLk hlen ez es
      go_wp2_with fail
      refine (of_ok _ _ b s (Tb.row ls k) _ LK.out (HX.out k) ST.out (by rw [NK.out]; omega) (by rw [NK.out]; omega) z sc EZ.out ES.out).mono ?_
      rintro e v ⟨g, rfl, hg, hL, hbv⟩
      have BV : Hid (Below w.heap.size w v) := below_then HW.out hbv
      have RV : Hid (GRow v w.heap.size 97 (ls.length * 3) (Pg.qv s ls) k) := HR.out.keep hbv
      have LV : Hid (Lst .i64 v (some ⟨g, 0, none⟩) (Gp.codes z sc (Tb.row ls k))) := hL
      have hg0 : w.heap.size < g := by omega
      obtain ⟨f, hr⟩ := RV.out.room
      have r0 := hr.cell (show k * 3 < ls.length * 3 by omega)
      have r1 := hr.cell (show k * 3 + 1 < ls.length * 3 by omega)
      have r2 := hr.cell (show k * 3 + 2 < ls.length * 3 by omega)
      have s0 := hr.frozen (k * 3)
      have s1 := hr.frozen (k * 3 + 1)
      have s2 := hr.frozen (k * 3 + 2)
      clear hg hL hbv hr hck
      go_wp2
      go_roundw
      case rel =>
        refine ⟨k + 1, by omega, by go_num, RV.out.step (by rw [EG.out]; rfl) (by rw [EG.out]; rfl) (by rw [EG.out]; exact Gp.codes_length _ _ _) (by rw [EG.out]; exact LV.out) (fun x e => by cases e; exact hg0), ?_⟩
        exact ((BV.out.setCell (by simp) _).setCell (by simp) _).setCell (by simp) _
      case measure => simp [intOf]; omega
    · have e : k = ls.length := by omega
      subst e
      go_wp2
      go_ret
      exact ⟨w.heap.size, rfl, Nat.le_refl _, GRow.gps (t := 97) (N := ls.length * 3) (by rw [Pg.qv_length]; exact HR.out) (by rw [Pg.qv_length]), HW.out⟩
end Go.Proofs.Ytgpjmbhcfjafmaa
