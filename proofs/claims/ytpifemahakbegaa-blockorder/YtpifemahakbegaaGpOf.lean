/- Contracts of package group: Of. -/
import Derived.Test.YtpifemahakbegaaGpMakes
namespace Go.Proofs.Ytpifemahakbegaa
set_option linter.unusedVariables false
open Go.RowKit

theorem of_bad (a : Option Addr) (n cp : Nat) (b e : Int) (he : Gp.many n b = e) (h0 : ¬ e = 0) (hn : n ≤ maxLen) (w : World) :
    Calls Try.prog 59 #[.slice a n cp, .int .i64 b] w fun r w' => r = .returned (.tuple #[.agg #[.int .i32 0, .int .u32 0, .slice none 0 0], .int .i64 e]) ∧ Below w.heap.size w w' := by
  have g0 : (e != 0) = true := by simp [h0]
  have HE : Hid (Gp.many n b = e) := he
  have HN : Hid (n ≤ maxLen) := hn
  clear he h0 hn
  go_enter Try.func59, Try.ntmps59
  go_wp2_with (go_at_call 62; refine (countG_any n b e HE.out HN.out _).mono ?_; rintro r w' ⟨rfl, rfl⟩)
  exact bodyPost_ret (v := .tuple #[.agg #[.int .i32 0, .int .u32 0, .slice none 0 0], .int .i64 e]) (by simp [results, Try.results59, go_sem]) rfl ⟨rfl, box_below _ _⟩

set_option maxHeartbeats 800000 in
theorem of_ok (a : Option Addr) (cp b s : Nat) (l : List Int) (w : World) (ha : Lst .i32 w a l) (hx : Ls.In32 l) (hst : Gp.St b s) (h0 : 0 < l.length) (hl : l.length ≤ 256) (z sc : Int) (ez : Gp.low l = z) (es : Gp.scale s l = sc) :
    Calls Try.prog 59 #[.slice a l.length cp, .int .i64 b] w fun e w' => ∃ g, e = .returned (.tuple #[.agg #[.int .i32 z, .int .u32 sc, .slice (some ⟨g, 0, none⟩) l.length l.length], .int .i64 0]) ∧ w.heap.size ≤ g ∧
      Lst .i64 w' (some ⟨g, 0, none⟩) (Gp.codes z sc l) ∧ Below w.heap.size w w' := by
  have HE : Hid (Gp.many l.length (b : Int) = 0) := Gp.many_ok hst h0 hl
  have HN : Hid (l.length ≤ maxLen) := by show l.length ≤ maxLen; unfold maxLen; omega
  have bs := hst.bd
  have bd := Gp.spread_bd hx
  have zb := Gp.lowN_in hx l.length
  have yb := Gp.highN_in hx l.length
  have sb := Gp.scale_bd (s := (s : Int)) hx (by omega)
  obtain ⟨y, ey⟩ : ∃ y, Gp.high l = y := ⟨_, rfl⟩
  have EZ : Hid (Gp.low l = z) := ez
  have EY : Hid (Gp.high l = y) := ey
  have ES : Hid (Gp.up (y - z) s = sc) := by show _ = _; rw [← ey, ← ez]; exact es
  rw [ez, ey] at bd
  rw [es] at sb
  have zb : -2147483648 ≤ z ∧ z ≤ 2147483647 := by rw [← ez]; exact zb
  have yb : -2147483648 ≤ y ∧ y ≤ 2147483647 := by rw [← ey]; exact yb
  have HA : Hid (Lst .i32 w a l) := ha
  have HX : Hid (Ls.In32 l) := hx
  have HS : Hid (Gp.St b s) := hst
  clear ha hx hst ez ey es
  have hmk := run_make_row' (P := Try.prog) 31 3 (.int .i64 0) 8 Try.underlying31 Try.infoIntG rfl .i64 .i64 l.length (by omega) (by omega)
  go_enter Try.func59, Try.ntmps59
  go_wp2_with (first
    | (go_at_call 62; refine (countG_any _ _ 0 HE.out HN.out _).mono ?_; rintro r w' ⟨rfl, rfl⟩)
    | (go_at_call 63; refine (min_any _ _ l _ (HA.out.keep (box_below _ _)) HN.out h0 z EZ.out).mono ?_; rintro r w' ⟨rfl, rfl⟩)
    | (go_at_call 66; refine (max_any _ _ l _ (HA.out.keep (box_below _ _)) HN.out h0 y EY.out).mono ?_; rintro r w' ⟨rfl, rfl⟩)
    | (go_at_call 65; refine (apart_any _ _ yb.1 yb.2 zb.1 zb.2 _).mono ?_; rintro r w' ⟨rfl, rfl⟩)
    | (go_at_call 64; refine (scaleOf_any _ _ _ HS.out bd.1 bd.2 sc ES.out _).mono ?_; rintro r w' ⟨rfl, rfl⟩))
  clear hmk
  go_loopw [33] (fun i wr => ∃ k : Nat, k ≤ l.length ∧ i = .int .i64 k ∧ wr.rowIs (w.heap.size + 1) 3 l.length (partG .i64 (fun j => Gp.code z sc (Ls.nth l j)) k) ∧ Below (w.heap.size + 1) (w.alloc (.cells #[.int .i32 0, .int .u32 0, .slice none 0 0] 114)) wr) (fun i _ => l.length - (intOf i).toNat)
  case atStart =>
    refine ⟨0, Nat.zero_le _, rfl, ?_, (Below.refl _ _).alloc (by simp) _⟩
    have := World.rowIs_made (w.alloc (.cells #[.int .i32 0, .int .u32 0, .slice none 0 0] 114)) (.int .i64 0) l.length 3
    rw [show (w.alloc (.cells #[.int .i32 0, .int .u32 0, .slice none 0 0] 114)).heap.size = w.heap.size + 1 by simp] at this
    exact this.congr (fun j hj => by simp [partG])
  case round =>
    obtain ⟨k, hk, rfl, hrow, hbel⟩ := hrel
    have hb0 : Below w.heap.size w wr := (box_below w _).trans (hbel.mono (by omega))
    by_cases hlt : k < l.length
    · obtain ⟨b1, o1, rfl, hc1⟩ := (HA.out.keep hb0).get hlt
      have hck := hc1 k hlt
      have hxk := HX.out k
      have HR : Hid (wr.rowIs (w.heap.size + 1) 3 l.length (partG .i64 (fun j => Gp.code z sc (Ls.nth l j)) k)) := hrow
      have HB : Hid (Below (w.heap.size + 1) (w.alloc (.cells #[.int .i32 0, .int .u32 0, .slice none 0 0] 114)) wr) := hbel
      clear hc1 hrow hbel hb0
      have hrat : Calls Try.prog 67 #[.int .i64 (Ls.nth l k - z), .int .i64 sc] wr fun e w' => e = .returned (.int .i64 (Gp.code z sc (Ls.nth l k))) ∧ ∃ n, w' = wr.drewN n := by
        by_cases hp : 0 < sc
        · rw [Gp.code_yes hp]
          exact ratio_any _ _ (by omega) (by omega) hp (by omega) _
        · rw [Gp.code_no hp]
          refine (ratio_none _ _ (by omega) _).mono ?_
          rintro e w' ⟨rfl, rfl⟩
          exact ⟨rfl, 0, rfl⟩
      have HQ : Hid (Calls Try.prog 67 #[.int .i64 (Ls.nth l k - z), .int .i64 sc] wr fun e w' => e = .returned (.int .i64 (Gp.code z sc (Ls.nth l k))) ∧ ∃ n, w' = wr.drewN n) := hrat
      clear hrat
      go_wp2_with (go_at_call 65; refine (apart_any _ _ hxk.1 hxk.2 zb.1 zb.2 _).mono ?_; rintro r w' ⟨rfl, hw⟩; cases hw.symm)
      refine (HQ.out).mono ?_
      rintro e w' ⟨rfl, n, rfl⟩
      have R1 : Hid ((wr.drewN n).rowIs (w.heap.size + 1) 3 l.length (partG .i64 (fun j => Gp.code z sc (Ls.nth l j)) k)) := HR.out.of_block rfl
      have B1 : Hid (Below (w.heap.size + 1) (w.alloc (.cells #[.int .i32 0, .int .u32 0, .slice none 0 0] 114)) (wr.drewN n)) := below_drewN HB.out n
      have hcg := R1.out.cell hlt
      have hfg := R1.out.frozen k
      clear HQ
      go_wp2
      go_roundw
      case rel => exact ⟨k + 1, by omega, by go_num, (R1.out.set k _).congr (fun j hj => partG_set _ _ k j), B1.out.setCell (by simp) _⟩
      case measure => simp [intOf]; omega
    · have e : k = l.length := by omega
      subst e
      have r0 : wr.rowIs w.heap.size 114 3 (fun i => if i = 0 then .int .i32 0 else if i = 1 then .int .u32 0 else .slice none 0 0) :=
        (World.rowIs_alloc w #[.int .i32 0, .int .u32 0, .slice none 0 0] 114 _ (fun i hi => by match i, hi with | 0, _ => rfl | 1, _ => rfl | 2, _ => rfl)).of_block (hbel.block _ (by omega))
      have c0 := r0.cell (show 0 < 3 by decide)
      have c1 := r0.cell (show 1 < 3 by decide)
      have c2 := r0.cell (show 2 < 3 by decide)
      have f0 := r0.frozen 0
      have f1 := r0.frozen 1
      have f2 := r0.frozen 2
      have hcells : Hid (wr.rowIs (w.heap.size + 1) 3 l.length (partG .i64 (fun j => Gp.code z sc (Ls.nth l j)) l.length) ∧ Below w.heap.size w wr) := ⟨hrow, hb0⟩
      clear hrow hb0 hbel r0
      go_wp2
      refine bodyPost_ret (v := .tuple #[.agg #[.int .i32 z, .int .u32 sc, .slice (some ⟨w.heap.size + 1, 0, none⟩) l.length l.length], .int .i64 0]) (by simp [results, Try.results59, go_sem, c0, c1, c2]) rfl ⟨w.heap.size + 1, rfl, by omega, ?_, ?_⟩
      · obtain ⟨hrow, hb0⟩ := hcells.out
        refine lst_of_row (f := partG .i64 (fun j => Gp.code z sc (Ls.nth l j)) l.length) (t := 3) ?_ (fun i hi => ?_)
        · rw [Gp.codes_length]
          exact ((hrow.setOther (by simp) _).setOther (by simp) _).setOther (by simp) _
        · rw [Gp.codes_length] at hi
          rw [partG_lt hi, Gp.nth_codes hi]
      · exact (((hcells.out.2).setCell (by simp) _).setCell (by simp) _).setCell (by simp) _
end Go.Proofs.Ytpifemahakbegaa
