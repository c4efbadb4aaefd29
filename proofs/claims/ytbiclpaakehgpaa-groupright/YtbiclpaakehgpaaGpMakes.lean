/- Contracts of package group where memory is made: One, Back, Of, Right, Equal. -/
import Derived.Test.YtbiclpaakehgpaaGpCalls
import Derived.Test.YtbiclpaakehgpaaDtMakes
namespace Go.Proofs.Ytbiclpaakehgpaa
set_option linter.unusedVariables false
open Go.RowKit

/-- The first k places made, the others 0. -/
def partG (q : IntKind) (F : Nat → Int) (k j : Nat) : Value := .int q (if j < k then F j else 0)
theorem partG_lt {q : IntKind} {F : Nat → Int} {k j : Nat} (h : j < k) : partG q F k j = .int q (F j) := by unfold partG; rw [if_pos h]
theorem partG_set (q : IntKind) (F : Nat → Int) (k j : Nat) : (if j = k then Value.int q (F k) else partG q F k j) = partG q F (k + 1) j := by
  unfold partG
  by_cases e : j = k
  · subst e; rw [if_pos rfl, if_pos (by omega)]
  · rw [if_neg e]
    by_cases h : j < k
    · rw [if_pos h, if_pos (by omega)]
    · rw [if_neg h, if_neg (by omega)]
theorem Try.infoInt : (Try.prog.info? 3).map (fun i => (i.zero, i.size, i.bytes)) = some (some (.int .i64 0), 1, 8) := by kernel_rfl

theorem mul_bd {c sc : Int} (h1 : 0 ≤ c) (h2 : c ≤ 255) (h3 : 0 ≤ sc) (h4 : sc ≤ 4294967295) : 0 ≤ c * sc ∧ c * sc ≤ 1095216660225 := by
  have a := Int.mul_nonneg h1 h3
  have b : c * sc ≤ 255 * sc := Int.mul_le_mul_of_nonneg_right h2 h3
  omega

theorem one_any (z sc c : Int) (a : Option Addr) (n cp : Nat) (hz1 : -2147483648 ≤ z) (hz2 : z ≤ 2147483647) (hs1 : 0 ≤ sc) (hs2 : sc ≤ 4294967295) (hc1 : 0 ≤ c) (hc2 : c ≤ 255) (w : World) :
    Calls Try.prog 21 #[.agg #[.int .i32 z, .int .u32 sc, .slice a n cp], .int .i64 c] w fun e w' => e = .returned (.int .i32 (Gp.mean z sc c)) ∧ Below w.heap.size w w' := by
  have hm := mul_bd hc1 hc2 hs1 hs2
  go_enter Try.func21, Try.ntmps21
  go_wp2_with (go_at_call 36; refine (wide_any _ _).mono ?_; rintro e w' ⟨rfl, rfl⟩)
  go_ret
  exact ⟨rfl, box_below _ _⟩

set_option maxHeartbeats 800000 in
theorem back_any (z sc : Int) (a : Option Addr) (cp : Nat) (c : List Int) (w : World) (ha : Lst .i64 w a c) (hl : c.length ≤ 256) (hf : Gp.fits 255 c = true) (hz1 : -2147483648 ≤ z) (hz2 : z ≤ 2147483647) (hs1 : 0 ≤ sc) (hs2 : sc ≤ 4294967295) :
    Calls Try.prog 17 #[.agg #[.int .i32 z, .int .u32 sc, .slice a c.length cp]] w fun e w' => ∃ g, e = .returned (.slice (some ⟨g, 0, none⟩) c.length c.length) ∧ w.heap.size ≤ g ∧
      Lst .i32 w' (some ⟨g, 0, none⟩) (Gp.means z sc c) ∧ Below w.heap.size w w' := by
  have HA : Hid (Lst .i64 w a c) := ha
  have HF : Hid (Gp.fits 255 c = true) := hf
  clear ha hf
  have hmk := run_make_row' (P := Try.prog) 22 21 (.int .i32 0) 4 Try.underlying22 Try.infoInt32 rfl .i64 .i64 c.length (by omega) (by omega)
  go_enter Try.func17, Try.ntmps17
  go_wp2
  clear hmk
  go_loopw [13] (fun i wr => ∃ k : Nat, k ≤ c.length ∧ i = .int .i64 k ∧ wr.rowIs (w.heap.size + 1) 21 c.length (partG .i32 (fun j => Gp.mean z sc (Ls.nth c j)) k) ∧ Below (w.heap.size + 1) (w.alloc (.cells #[.int .i32 z, .int .u32 sc, .slice a c.length cp] 27)) wr) (fun i _ => c.length - (intOf i).toNat)
  case atStart =>
    refine ⟨0, Nat.zero_le _, rfl, ?_, (Below.refl _ _).alloc (by simp) _⟩
    have := World.rowIs_made (w.alloc (.cells #[.int .i32 z, .int .u32 sc, .slice a c.length cp] 27)) (.int .i32 0) c.length 21
    rw [show (w.alloc (.cells #[.int .i32 z, .int .u32 sc, .slice a c.length cp] 27)).heap.size = w.heap.size + 1 by simp] at this
    exact this.congr (fun j hj => by simp [partG])
  case round =>
    obtain ⟨k, hk, rfl, hrow, hbel⟩ := hrel
    have hb0 : Below w.heap.size w wr := (box_below w _).trans (hbel.mono (by omega))
    by_cases hlt : k < c.length
    · obtain ⟨b1, o1, rfl, hc1⟩ := (HA.out.keep hb0).get hlt
      have hck := hc1 k hlt
      have d0 : wr.cell? ⟨w.heap.size, 0, none⟩ = some (.int .i32 z) := by rw [hbel.cell (p := ⟨w.heap.size, 0, none⟩) (by simp)]; exact cell_of_row _ _ _ _ _ _ (heap_alloc_new w _)
      have d1 : wr.cell? ⟨w.heap.size, 1, none⟩ = some (.int .u32 sc) := by rw [hbel.cell (p := ⟨w.heap.size, 1, none⟩) (by simp)]; exact cell_of_row _ _ _ _ _ _ (heap_alloc_new w _)
      have d2 : wr.cell? ⟨w.heap.size, 2, none⟩ = some (.slice (some ⟨b1, o1, none⟩) c.length cp) := by rw [hbel.cell (p := ⟨w.heap.size, 2, none⟩) (by simp)]; exact cell_of_row _ _ _ _ _ _ (heap_alloc_new w _)
      have hfk := Gp.fits_all HF.out k hlt
      have HR : Hid (wr.rowIs (w.heap.size + 1) 21 c.length (partG .i32 (fun j => Gp.mean z sc (Ls.nth c j)) k)) := hrow
      have HB : Hid (Below (w.heap.size + 1) (w.alloc (.cells #[.int .i32 z, .int .u32 sc, .slice (some ⟨b1, o1, none⟩) c.length cp] 27)) wr) := hbel
      clear hc1 hrow hbel hb0
      go_wp2_with fail
      refine (one_any _ _ _ _ _ _ hz1 hz2 hs1 hs2 hfk.1 hfk.2 _).mono ?_
      rintro e w' ⟨rfl, hb1⟩
      have R1 : Hid (w'.rowIs (w.heap.size + 1) 21 c.length (partG .i32 (fun j => Gp.mean z sc (Ls.nth c j)) k)) := HR.out.of_block (hb1.block _ HR.out.lt)
      have B1 : Hid (Below (w.heap.size + 1) (w.alloc (.cells #[.int .i32 z, .int .u32 sc, .slice (some ⟨b1, o1, none⟩) c.length cp] 27)) w') := HB.out.trans (hb1.mono (Nat.le_of_lt HR.out.lt))
      have hcg := R1.out.cell hlt
      have hfg := R1.out.frozen k
      clear hb1 d0 d1 d2
      go_wp2
      go_roundw
      case rel => exact ⟨k + 1, by omega, by go_num, (R1.out.set k _).congr (fun j hj => partG_set _ _ k j), B1.out.setCell (by simp) _⟩
      case measure => simp [intOf]; omega
    · go_wp2
      go_ret
      have e : k = c.length := by omega
      subst e
      refine ⟨w.heap.size + 1, rfl, by omega, ?_, hb0⟩
      refine lst_of_row (f := partG .i32 (fun j => Gp.mean z sc (Ls.nth c j)) c.length) (t := 21) (by rw [Gp.means_length]; exact hrow) (fun i hi => ?_)
      rw [Gp.means_length] at hi
      rw [partG_lt hi, Gp.nth_means hi]
end Go.Proofs.Ytbiclpaakehgpaa
