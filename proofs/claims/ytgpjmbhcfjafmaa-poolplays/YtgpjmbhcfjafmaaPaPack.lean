/- Contracts of package page: groups packed. -/
import Derived.Test.YtgpjmbhcfjafmaaPaTests
namespace Go.Proofs.Ytgpjmbhcfjafmaa
set_option linter.unusedVariables false
open Go.RowKit
attribute [local go_sem ↓] Go.wp_at_zero Go.wp_at_succ

theorem Try.infoPk : (Try.prog.info? 103).map (fun i => (i.zero, i.size, i.bytes)) = some (some (.agg #[.int .i32 0, .int .u32 0, .slice none 0 0, .slice none 0 0]), 4, 56) := by kernel_rfl
theorem Try.infoGp : (Try.prog.info? 97).map (fun i => (i.zero, i.size, i.bytes)) = some (some (.agg #[.int .i32 0, .int .u32 0, .slice none 0 0]), 3, 32) := by kernel_rfl

theorem packOne_any (z sc : Int) (a : Option Addr) (cp b : Nat) (l : List Int) (N : Nat) (w : World) (ha : Lst .i64 w a l) (hb : Pk.Ok b) (hl : l.length ≤ 256) (hc : Pk.Cds b l) (hN : Pk.size b l.length = N) :
    Calls Try.prog 48 #[.agg #[.int .i32 z, .int .u32 sc, .slice a l.length cp], .int .i64 b] w fun e w' => ∃ g, e = .returned (.agg #[.int .i32 z, .int .u32 sc, .slice none 0 0, .slice (some ⟨g, 0, none⟩) N N]) ∧ w.heap.size ≤ g ∧ Lst .u64 w' (some ⟨g, 0, none⟩) (Pk.pack b l) ∧ Below w.heap.size w w' := by
  have HA : Hid (Lst .i64 w a l) := ha
  have HB : Hid (Pk.Ok b) := hb
  have HC : Hid (Pk.Cds b l) := hc
  have HN : Hid (Pk.size b l.length = N) := hN
  clear ha hb hc hN
  go_enter Try.func48, Try.ntmps48
  go_wp2_with fail
  refine (pack_ok _ _ b l HB.out hl _ (HA.out.keep (two_boxes _ _ _)) HC.out).mono ?_
  rintro e v ⟨g, rfl, hg, hL, hbv⟩
  rw [HN.out]
  have q := boxes_cells hbv
  have c0 := q.1 0 _ rfl
  have c1 := q.1 1 _ rfl
  have y0 := q.2 0 _ rfl
  have y1 := q.2 1 _ rfl
  have y2 := q.2 2 _ rfl
  have y3 := q.2 3 _ rfl
  have r1 : v.rowIs (w.heap.size + 1) 103 4 (fun i => if i = 0 then .int .i32 0 else if i = 1 then .int .u32 0 else .slice none 0 0) := by
    have := World.rowIs_alloc (w.alloc (.cells #[.int .i32 z, .int .u32 sc, .slice a l.length cp] 97)) #[.int .i32 0, .int .u32 0, .slice none 0 0, .slice none 0 0] 103 (fun i => if i = 0 then .int .i32 0 else if i = 1 then .int .u32 0 else .slice none 0 0) (fun i hi => by match i, hi with | 0, _ => rfl | 1, _ => rfl | 2, _ => rfl | 3, _ => rfl)
    rw [show (w.alloc (.cells #[.int .i32 z, .int .u32 sc, .slice a l.length cp] 97)).heap.size = w.heap.size + 1 by simp] at this
    exact this.of_block (hbv.block _ (by simp))
  have f0 := r1.frozen 0
  have f1 := r1.frozen 1
  have f2 := r1.frozen 2
  have f3 := r1.frozen 3
  have hg2 : w.heap.size + 2 ≤ g := by simpa using hg
  have HL : Hid (Lst .u64 v (some ⟨g, 0, none⟩) (Pk.pack b l)) := hL
  have BV : Hid (Below w.heap.size w v) := below_then (two_boxes _ _ _) hbv
  clear q hg hL hbv r1
  go_wp2
  refine bodyPost_ret (v := .agg #[.int .i32 z, .int .u32 sc, .slice none 0 0, .slice (some ⟨g, 0, none⟩) N N]) (by simp [results, Try.results48, go_sem, y0, y1, y2, y3]) rfl ⟨g, rfl, by omega, ?_, ?_⟩
  · exact (((HL.out.set_otherP (fun x e => by cases e; show ¬ g = w.heap.size + 1; omega) _).set_otherP (fun x e => by cases e; show ¬ g = w.heap.size + 1; omega) _).set_otherP (fun x e => by cases e; show ¬ g = w.heap.size + 1; omega) _).set_otherP (fun x e => by cases e; show ¬ g = w.heap.size + 1; omega) _
  · exact (((BV.out.setCell (by simp) _).setCell (by simp) _).setCell (by simp) _).setCell (by simp) _

set_option maxHeartbeats 1600000 in
theorem packAll_any (a : Option Addr) (c b n : Nat) (l : List (Int × Int × List Int)) (w : World) (ha : Gps w a l) (hl : l.length ≤ 10000) (hb : Pk.Ok b) (hf : Pg.AllFit b n l) (hn : n ≤ 256) :
    Calls Try.prog 45 #[.slice a l.length c, .int .i64 b] w fun e w' => ∃ g, e = .returned (.slice (some ⟨g, 0, none⟩) l.length l.length) ∧ w.heap.size ≤ g ∧ Pks w' g b l ∧ Below w.heap.size w w' := by
  have HA : Hid (Gps w a l) := ha
  have HB : Hid (Pk.Ok b) := hb
  have HF : Hid (Pg.AllFit b n l) := hf
  clear ha hb hf
  have hmk := run_make_rows (P := Try.prog) 76 103 (.agg #[.int .i32 0, .int .u32 0, .slice none 0 0, .slice none 0 0]) #[.int .i32 0, .int .u32 0, .slice none 0 0, .slice none 0 0] 4 56 rfl Try.underlying76 Try.infoPk .i64 .i64 l.length (by omega) (by omega)
  go_enter Try.func45, Try.ntmps45
  go_wp2
  clear hmk
  go_loopw [13] (fun i wr => ∃ k : Nat, k ≤ l.length ∧ i = .int .i64 k ∧ PRow wr w.heap.size 103 (l.length * 4) b l k ∧ Below w.heap.size w wr) (fun i _ => l.length - (intOf i).toNat)
  case atStart => exact ⟨0, Nat.zero_le _, rfl, PRow.made w _ _ _ _ _, (Below.refl _ _).alloc (Nat.le_refl _) _⟩
  case round =>
    obtain ⟨k, hk, rfl, hrow, hbel⟩ := hrel
    have HR : Hid (PRow wr w.heap.size 103 (l.length * 4) b l k) := hrow
    have HW : Hid (Below w.heap.size w wr) := hbel
    have hsz := hbel.size
    have hlt0 := hrow.lt
    clear hrow hbel
    by_cases hlt : k < l.length
    · obtain ⟨b1, o1, rfl, hall⟩ := HA.out.get hlt
      obtain ⟨a', c', hg⟩ := hall k hlt
      obtain ⟨d0, d1, d2, d3⟩ := hg.keep HW.out
      have D3 : Hid (Lst .i64 wr a' (Pg.gc (Pg.nth l k))) := d3
      have hbl := hg.lt
      have F1 := HF.out k hlt
      have FL : Hid ((Pg.gc (Pg.nth l k)).length = n) := F1.1
      have FC : Hid (Pk.Cds b (Pg.gc (Pg.nth l k))) := F1.2.1
      clear hall d3 hg F1
      obtain ⟨N, eN⟩ : ∃ N, Pk.size b (Pg.gc (Pg.nth l k)).length = N := ⟨_, rfl⟩
      have EN : Hid (Pk.size b (Pg.gc (Pg.nth l k)).length = N) := eN
      clear eN
      go_wp2_with fail
      refine (packOne_any _ _ _ _ b (Pg.gc (Pg.nth l k)) N _ (D3.out.keep (box_below _ _)) HB.out (by rw [FL.out]; omega) FC.out EN.out).mono ?_
      rintro e v ⟨g, rfl, hg, hL, hbv⟩
      have BV : Hid (Below w.heap.size w v) := below_then (below_then HW.out (box_below _ _)) hbv
      have RV : Hid (PRow v w.heap.size 103 (l.length * 4) b l k) := (HR.out.keep (box_below _ _)).keep hbv
      have LV : Hid (Lst .u64 v (some ⟨g, 0, none⟩) (Pk.pack b (Pg.gc (Pg.nth l k)))) := hL
      have hg0 : w.heap.size < g := by simp at hg; omega
      obtain ⟨f, hr⟩ := RV.out.room
      have r0 := hr.cell (show k * 4 < l.length * 4 by omega)
      have r1 := hr.cell (show k * 4 + 1 < l.length * 4 by omega)
      have r2 := hr.cell (show k * 4 + 2 < l.length * 4 by omega)
      have r3 := hr.cell (show k * 4 + 3 < l.length * 4 by omega)
      have s0 := hr.frozen (k * 4)
      have s1 := hr.frozen (k * 4 + 1)
      have s2 := hr.frozen (k * 4 + 2)
      have s3 := hr.frozen (k * 4 + 3)
      clear hg hL hbv hr d0 d1 d2
      go_wp2
      go_roundw
      case rel =>
        refine ⟨k + 1, by omega, by go_num, RV.out.step rfl rfl EN.out LV.out (fun x e => by cases e; exact hg0), ?_⟩
        exact (((BV.out.setCell (by simp) _).setCell (by simp) _).setCell (by simp) _).setCell (by simp) _
      case measure => simp [intOf]; omega
    · have e : k = l.length := by omega
      subst e
      go_wp2
      go_ret
      exact ⟨w.heap.size, rfl, Nat.le_refl _, HR.out.pks rfl, HW.out⟩
end Go.Proofs.Ytgpjmbhcfjafmaa
