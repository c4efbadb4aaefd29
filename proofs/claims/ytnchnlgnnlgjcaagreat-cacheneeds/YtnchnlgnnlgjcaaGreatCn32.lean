/- Layer 13: CcRoom. -/
import Derived.Test.YtnchnlgnnlgjcaaGreatCn31
namespace Go.Proofs.YtnchnlgnnlgjcaaGreat
set_option linter.unusedVariables false
set_option linter.unusedSimpArgs false
open Go.RowKit
namespace Cc
theorem need_c (C g H D G W : Nat) (ls : List (Int × Int)) (t k x : Nat) (q : Bool) (w : World) (h : Bd w C g H D G W ls t k) (hk : k < ls.length) (hl : ls.length ≤ 4) (hH : H ≤ 4) (hG : 1 ≤ G) (hG2 : G ≤ 16) (hW : W ≤ 64) (ht : t ≤ 1000) (hq : decide (gn G W t < gn G W (t + 1)) = q) (hx : (if q = true then ls.length * H else 0) = x) :
    Calls Tryz.prog 33 #[.pointer (some ⟨C, 0, none⟩)] w fun e w' => e = .returned (.int .i64 (x : Int)) ∧ Below w.heap.size w w' := by
  have HB : Hid (Bd w C g H D G W ls t k) := h
  have DU : Hid (Calls Tryz.prog 58 #[.pointer (some ⟨C, 0, none⟩)] w fun e w' => e = .returned (.bool q) ∧ Below w.heap.size w w') := due_c C g H D G W ls t k q w h hk hl hG hG2 hW ht hq
  clear h hq
  cases q with
  | false =>
    rw [if_neg (by decide)] at hx
    subst hx
    go_enter Tryz.func33, Tryz.ntmps33
    go_wp2_with (go_at_call 58; refine DU.out.mono ?_; rintro e w1 ⟨rfl, hb⟩; have B1 : Hid (Below w.heap.size w w1) := hb; clear hb)
    go_ret
    exact ⟨rfl, B1.out⟩
  | true =>
    rw [if_pos rfl] at hx
    have hm : ls.length * H ≤ 16 := Nat.le_trans (Nat.mul_le_mul hl hH) (by decide)
    have e1 : IntKind.i64.wrap ((ls.length : Int) * H) = (x : Int) := by rw [← Int.natCast_mul, hx, IntKind.wrap_i64]; omega
    clear hx hm
    go_enter Tryz.func33, Tryz.ntmps33
    go_wp2_with (go_at_call 58; refine DU.out.mono ?_; rintro e w1 ⟨rfl, hb⟩; obtain ⟨al, cl, T, pb, m, pc, ct, cc, -, c1, -, -, -, -, -, -, c8, hlt, -⟩ := (HB.out.keep hb).cells; have B1 : Hid (Below w.heap.size w w1) := hb; clear hb)
    go_quiet (fail)
    go_wp2
    go_ret
    exact ⟨rfl, Rt.below_drewN B1.out _⟩
set_option maxHeartbeats 800000 in
theorem room_c (C g b n H D G W cf : Nat) (ls : List (Int × Int)) (R M : List Int) (t k : Nat) (q r : Bool) (w : World) (hp : PoolAt w g b n R M) (hf : Po.cnt R = cf) (h : Bd w C g H D G W ls t k) (hk : k < ls.length) (hl : ls.length ≤ 4) (hH : H ≤ 4) (hG : 1 ≤ G) (hG2 : G ≤ 16) (hW : W ≤ 64) (ht : t ≤ 1000) (hq : decide (gn G W t < gn G W (t + 1)) = q)
    (hr : (!q || decide ((ls.length - k) * H ≤ cf)) = r) :
    Calls Tryz.prog 34 #[.pointer (some ⟨C, 0, none⟩)] w fun e w' => e = .returned (.bool r) ∧ Below w.heap.size w w' := by
  have HB : Hid (Bd w C g H D G W ls t k) := h
  have HP : Hid (PoolAt w g b n R M) := hp
  obtain ⟨al, cl, T, pb, m, pc, ct, cc, c0, c1, -, -, -, -, -, -, c8, hlt, -⟩ := h.cells
  have cD := Tn.reg_of (u := w) fun v hv => due_c C g H D G W ls t k q v (HB.out.keep hv) hk hl hG hG2 hW ht hq
  have cF := Tn.reg_of (u := w) fun v hv => (free_any g b n cf R M v (HP.out.keep hv) hf).mono fun _ _ ⟨h1, h2⟩ => ⟨h1, by rw [h2]; exact Below.refl _ _⟩
  have cN := Tn.reg_of (u := w) fun v hv => (next_c C g H D G W ls t k v (HB.out.keep hv) hk hl).mono fun _ _ ⟨h1, n, h2⟩ => ⟨h1, by rw [h2]; exact Rt.below_drewN (Below.refl _ _) n⟩
  have hm : (ls.length - k) * H ≤ 16 := Nat.le_trans (Nat.mul_le_mul (show ls.length - k ≤ 4 by omega) hH) (by decide)
  have e1 : IntKind.i64.wrap (((ls.length : Int) - k) * H) = (((ls.length - k) * H : Nat) : Int) := by rw [Int.natCast_mul, show ((ls.length - k : Nat) : Int) = (ls.length : Int) - k by omega, IntKind.wrap_i64, ← show ((ls.length - k : Nat) : Int) = (ls.length : Int) - k by omega, ← Int.natCast_mul]; omega
  obtain ⟨x, ex⟩ : ∃ x, (ls.length - k) * H = x := ⟨_, rfl⟩
  rw [ex] at e1 hr
  have k0 := cell_regrown c0
  have k1 := cell_regrown c1
  have k8 := cell_regrown c8
  clear h hp hq hf hm ex c0 c1 c8
  cases q with
  | false =>
    have er : r = true := by rw [← hr]; rfl
    subst er
    clear hr
    go_enter Tryz.func34, Tryz.ntmps34
    go_wp2_with fail
    refine wp_region_quiet_below (by kernel_rfl) (by kernel_rfl) ?_
    repeat (go_big_quiet_step (first | (with_reducible exact cD _ _) | (with_reducible exact cF _ _) | (with_reducible exact cN _ _)))
    refine wpQuiet_nil ?_
    intro _ hw'
    obtain ⟨⟨dq, osq⟩, hw''⟩ := hw'
    subst hw''
    go_wp2
    go_ret
    exact ⟨rfl, below_regrown w dq osq⟩
  | true =>
    have er : Hid (decide (x ≤ cf) = r) := hr
    clear hr
    go_enter Tryz.func34, Tryz.ntmps34
    go_wp2_with fail
    refine wp_region_quiet_below (by kernel_rfl) (by kernel_rfl) ?_
    repeat (go_big_quiet_step (first | (with_reducible exact cD _ _) | (with_reducible exact cF _ _) | (with_reducible exact cN _ _)))
    refine wpQuiet_nil ?_
    intro _ hw'
    obtain ⟨⟨dq, osq⟩, hw''⟩ := hw'
    subst hw''
    go_wp2
    go_ret
    exact ⟨ret_bool er.out, below_regrown w dq osq⟩
end Cc
end Go.Proofs.YtnchnlgnnlgjcaaGreat
