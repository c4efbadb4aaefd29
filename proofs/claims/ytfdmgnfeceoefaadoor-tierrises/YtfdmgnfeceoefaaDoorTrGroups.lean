/- Contracts of layer 9: how many groups are quantized, how many tokens are plain. -/
import Derived.Test.YtfdmgnfeceoefaaDoorTrTests
import Derived.Lib.QuietBelow
namespace Go.Proofs.YtfdmgnfeceoefaaDoor
set_option linter.unusedVariables false
open Go.RowKit Go.Sort
open Tr

namespace Tr
def near (t : Int) : Int := if t < 0 then 0 else if 1024 < t then 1024 else t
theorem near_bd (t : Int) : 0 ≤ near t ∧ near t ≤ 1024 := by unfold near; split <;> (try split) <;> omega
def over (n i : Int) : Int := if n - i < 0 then 0 else n - i
theorem over_bd {n i : Int} (h0 : 0 ≤ n) (h1 : n ≤ 1024) (h2 : 0 ≤ i) : 0 ≤ over n i ∧ over n i ≤ 1024 := by unfold over; split <;> omega
/-- How many groups are quantized. -/
def grp (g i t : Int) : Int := over (near t) i / g
theorem grp_bd {g i t : Int} (h1 : 1 ≤ g) (h2 : 0 ≤ i) : 0 ≤ grp g i t ∧ grp g i t ≤ 1024 ∧ grp g i t * g ≤ over (near t) i ∧ over (near t) i < (grp g i t + 1) * g := by
  have hn := near_bd t
  have ho := over_bd hn.1 hn.2 h2
  unfold grp
  refine ⟨Int.ediv_nonneg ho.1 (by omega), ?_, Int.ediv_mul_le _ (by omega), ?_⟩
  · have := Int.ediv_le_self (a := over (near t) i) g ho.1; omega
  · exact Int.lt_ediv_add_one_mul_self _ (by omega)
end Tr
/-- A callee's contract in every world that leaves what was there at u. -/
theorem reg_of {P : Program} {f : FuncId} {args : Array Value} {u : World} {x : Value} (h : ∀ v, Below u.heap.size u v → Calls P f args v fun e w' => e = .returned x ∧ Below v.heap.size v w') :
    ∀ d os, Calls P f args (grow (redrawn u d) os) fun e w'' => e = .returned x ∧ ∃ p : Regrown, w'' = grow (redrawn u p.d) p.os := fun d os => Calls.regrown_of (h _ (below_regrown u d os))

theorem i64_same9 {x : Int} (h1 : -9223372036854775808 ≤ x) (h2 : x ≤ 9223372036854775807) : IntKind.i64.wrap x = x := by
  rw [IntKind.wrap_i64]; omega

theorem nearest_any (t n : Int) (hn : near t = n) (w : World) :
    Calls Tryd.prog 32 #[.int .i64 t] w fun e w' => e = .returned (.int .i64 n) ∧ w' = w := by
  have HN : Hid (near t = n) := hn
  clear hn
  by_cases h0 : t < 0
  · have H : Hid ((0 : Int) = n) := by show _ = _; rw [← HN.out]; unfold near; rw [if_pos h0]
    go_enter Tryd.func32, Tryd.ntmps32
    go_wp2
    all_goals (go_ret; exact ⟨ret_num (by first | exact H.out | (have := H.out; omega)), rfl⟩)
  · by_cases h1 : 1024 < t
    · have H : Hid ((1024 : Int) = n) := by show _ = _; rw [← HN.out]; unfold near; rw [if_neg h0, if_pos h1]
      have h0' : 0 ≤ t := by omega
      clear h0
      go_enter Tryd.func32, Tryd.ntmps32
      go_wp2
      all_goals (go_ret; exact ⟨ret_num (by first | exact H.out | (have := H.out; omega)), rfl⟩)
    · have H : Hid (t = n) := by show _ = _; rw [← HN.out]; unfold near; rw [if_neg h0, if_neg h1]
      have h0' : 0 ≤ t := by omega
      have h1' : t ≤ 1024 := by omega
      clear h0 h1
      go_enter Tryd.func32, Tryd.ntmps32
      go_wp2
      all_goals (go_ret; exact ⟨ret_num (by first | exact H.out | (have := H.out; omega)), rfl⟩)

theorem most_any (g i : Int) (v : Value) (hg : 1 ≤ g) (hg2 : g ≤ 16) (hi : 0 ≤ i) (hi2 : i ≤ 64) (w : World) :
    Calls Tryd.prog 21 #[.agg #[.int .i64 g, .int .i64 i, v]] w fun e w' => e = .returned (.int .i64 (i + g - 1)) ∧ Below w.heap.size w w' := by
  go_enter Tryd.func21, Tryd.ntmps21
  go_wp2
  go_ret
  exact ⟨ret_num (by omega), box_over _ _⟩

set_option maxHeartbeats 800000 in
theorem groups_any (g i t r : Int) (a : Option Addr) (m c : Nat) (hg : 1 ≤ g) (hg2 : g ≤ 16) (hi : 0 ≤ i) (hi2 : i ≤ 64) (hr : grp g i t = r) (w : World) :
    Calls Tryd.prog 18 #[.agg #[.int .i64 g, .int .i64 i, .slice a m c], .int .i64 t] w fun e w' => e = .returned (.int .i64 r) ∧ Below w.heap.size w w' := by
  have HR : Hid (grp g i t = r) := hr
  have bd := grp_bd (t := t) hg hi
  rw [hr] at bd
  obtain ⟨b1, b2, -, -⟩ := bd
  obtain ⟨n, hn⟩ : ∃ n, near t = n := ⟨_, rfl⟩
  have HN : Hid (near t = n) := hn
  have hnb := near_bd t
  rw [hn] at hnb
  obtain ⟨n0, n1⟩ := hnb
  obtain ⟨m', hm⟩ : ∃ m', (if n - i < 0 then 0 else n - i) = m' := ⟨_, rfl⟩
  have mb := over_bd n0 n1 hi
  unfold over at mb
  rw [hm] at mb
  obtain ⟨m0, m1⟩ := mb
  have hq : m'.tdiv g = r := by rw [Int.tdiv_eq_ediv_of_nonneg m0, ← hr, ← hm]; unfold grp over; rw [hn]
  have hq2 : m' / g = r := by rw [← Int.tdiv_eq_ediv_of_nonneg m0]; exact hq
  have hgz : ¬ g = 0 := by omega
  have HQ : Hid (rng g i = true) := by show rng g i = true; simp [rng, hg, hg2, hi, hi2]
  clear hr hn
  go_enter Tryd.func18, Tryd.ntmps18
  go_wp2_with (go_at_call 24; refine (ranged_any g i _ true HQ.out _).mono ?_; rintro e w1 ⟨rfl, hb⟩; have B1 : Hid (Below w.heap.size w w1) := (box_over _ _).trans (hb.mono (by simp)); have c0 : w1.cell? ⟨w.heap.size, 0, none⟩ = some (.int .i64 g) := (by rw [hb.cell (p := ⟨w.heap.size, 0, none⟩) (by simp)]; simp); have c1 : w1.cell? ⟨w.heap.size, 1, none⟩ = some (.int .i64 i) := (by rw [hb.cell (p := ⟨w.heap.size, 1, none⟩) (by simp)]; simp); clear hb)
  go_quiet ((go_at_call 32; exact Calls.quiet_of_same (nearest_any t n HN.out _)))
  go_wp2
  go_ret
  exact ⟨ret_num (by rw [show max (n - i) 0 = m' by rw [← hm]; split <;> omega]; exact hq2), B1.out.trans ((below_draws _ _).mono B1.out.size)⟩

set_option maxHeartbeats 800000 in
theorem plain_any (g i t r : Int) (a : Option Addr) (m c : Nat) (hg : 1 ≤ g) (hg2 : g ≤ 16) (hi : 0 ≤ i) (hi2 : i ≤ 64) (hr : near t - grp g i t * g = r) (w : World) :
    Calls Tryd.prog 19 #[.agg #[.int .i64 g, .int .i64 i, .slice a m c], .int .i64 t] w fun e w' => e = .returned (.int .i64 r) ∧ Below w.heap.size w w' := by
  obtain ⟨n, hn⟩ : ∃ n, near t = n := ⟨_, rfl⟩
  obtain ⟨s, hs⟩ : ∃ s, grp g i t = s := ⟨_, rfl⟩
  have bd := grp_bd (t := t) hg hi
  rw [hs] at bd
  have HN : Hid (near t = n) := hn
  have HS : Hid (grp g i t = s) := hs
  have hnb := near_bd t
  rw [hn] at hnb
  obtain ⟨n0, n1⟩ := hnb
  have s0 : 0 ≤ s * g := Int.mul_nonneg bd.1 (by omega)
  have s1 : s * g ≤ 1024 := by have := over_bd n0 n1 hi; rw [hn] at bd; omega
  rw [hn, hs] at hr
  have HR : Hid (n - s * g = r) := hr
  obtain ⟨b1, b2, -, -⟩ := bd
  clear hn hs hr
  have CG := fun (v : World) => groups_any g i t s a m c hg hg2 hi hi2 HS.out v
  have CN := fun (v : World) => nearest_any t n HN.out v
  go_enter Tryd.func19, Tryd.ntmps19
  go_wp2
  obtain ⟨u, hu⟩ : ∃ u, w.alloc (.cells #[.int .i64 g, .int .i64 i, .slice a m c] 24) = u := ⟨_, rfl⟩
  have U : Hid (Below w.heap.size w u) := by rw [← hu]; exact box_over _ _
  have c0 : u.cell? ⟨w.heap.size, 0, none⟩ = some (.int .i64 g) := by rw [← hu]; simp
  have c1 : u.cell? ⟨w.heap.size, 1, none⟩ = some (.int .i64 i) := by rw [← hu]; simp
  have c2 : u.cell? ⟨w.heap.size, 2, none⟩ = some (.slice a m c) := by rw [← hu]; simp
  rw [hu]
  clear hu
  have k0 := cell_regrown c0
  have k1 := cell_regrown c1
  have k2 := cell_regrown c2
  have cG := reg_of (u := u) fun v _ => CG v
  have cN := reg_of (u := u) fun v _ => (CN v).mono fun _ _ ⟨h1, h2⟩ => ⟨h1, by rw [h2]; exact Below.refl _ _⟩
  refine wp_region_quiet_below (by kernel_rfl) (by kernel_rfl) ?_
  repeat (quiet_step (first | exact cG _ _ | exact cN _ _))
  refine wpQuiet_nil ?_
  intro _ hw'
  obtain ⟨⟨dq, osq⟩, hw''⟩ := hw'
  subst hw''
  go_wp2
  go_ret
  exact ⟨ret_num (by rw [i64_same9 (x := s * g) (by omega) (by omega), i64_same9 (by omega) (by omega)]; exact HR.out), U.out.trans ((below_regrown u dq osq).mono U.out.size)⟩

theorem Tr.grp_is {g i t : Int} {k : Nat} (hg : 1 ≤ g) (h0 : 0 ≤ t) (h1 : t ≤ 1024) (h2 : k = 0 ∨ (k : Int) * g ≤ t - i) (h3 : ¬ ((k : Int) + 1) * g ≤ t - i) : (k : Int) = grp g i t := by
  have hn : near t = t := by unfold near; rw [if_neg (by omega), if_neg (by omega)]
  have k0 : 0 ≤ (k : Int) * g := Int.mul_nonneg (by omega) (by omega)
  unfold grp
  rw [hn]
  have ho : (k : Int) * g ≤ over t i ∧ over t i < ((k : Int) + 1) * g := by
    unfold over
    have e : ((k : Int) + 1) * g = k * g + g := by rw [Int.add_mul]; omega
    split
    · rcases h2 with rfl | h2
      · simp; omega
      · omega
    · rcases h2 with rfl | h2
      · simp at *; omega
      · omega
  symm
  apply Int.le_antisymm
  · have := Int.ediv_lt_of_lt_mul (show (0 : Int) < g by omega) ho.2; omega
  · exact Int.le_ediv_of_mul_le (by omega) ho.1

set_option maxHeartbeats 800000 in
theorem refGroups_any (g i t r : Int) (a : Option Addr) (m c : Nat) (hg : 1 ≤ g) (hg2 : g ≤ 16) (hi : 0 ≤ i) (hi2 : i ≤ 64) (h0 : 0 ≤ t) (h1 : t ≤ 1024) (hr : grp g i t = r) (w : World) :
    Calls Tryd.prog 20 #[.agg #[.int .i64 g, .int .i64 i, .slice a m c], .int .i64 t] w fun e w' => e = .returned (.int .i64 r) ∧ Below w.heap.size w w' := by
  have HR : Hid (grp g i t = r) := hr
  clear hr
  go_enter Tryd.func20, Tryd.ntmps20
  go_wp2
  go_loop [5] (fun k' => ∃ k : Nat, k' = .int .i64 k ∧ k ≤ 1024 ∧ Hid (k = 0 ∨ (k : Int) * g ≤ t - i)) (fun k' => 1024 - (intOf k').toNat)
  case atStart => exact ⟨0, rfl, by omega, Or.inl rfl⟩
  case round =>
    obtain ⟨k, rfl, hk, HK⟩ := hrel
    have p0 : 0 ≤ ((k : Int) + 1) * g := Int.mul_nonneg (by omega) (by omega)
    have p1 : ((k : Int) + 1) * g ≤ 16400 := by
      have := Int.mul_le_mul (show (k : Int) + 1 ≤ 1025 by omega) hg2 (by omega) (by omega)
      omega
    have p2 : (k : Int) + 1 ≤ ((k : Int) + 1) * g := by have := Int.mul_le_mul_of_nonneg_left hg (show (0 : Int) ≤ (k : Int) + 1 by omega); omega
    by_cases hlt : ((k : Int) + 1) * g ≤ t - i
    · go_wp2
      go_round
      case rel => exact ⟨k + 1, by go_num, by omega, Or.inr (by push_cast; exact hlt)⟩
      case measure => simp [intOf]; omega
    · go_wp2
      go_ret
      exact ⟨ret_num (show (k : Int) = r by rw [← HR.out]; exact Tr.grp_is hg h0 h1 HK.out (by omega)), box_over _ _⟩
end Go.Proofs.YtfdmgnfeceoefaaDoor
