/- One call of layer 11's law: At, and Fork where there are tables enough. -/
import Derived.Test.YtpifemahakbegaaBkT0
import Derived.Deep.DeepCutAuto
namespace Go.Proofs.Ytpifemahakbegaa
set_option linter.unusedVariables false
set_option linter.unusedSimpArgs false
open Go.RowKit

set_option maxRecDepth 100000 in
set_option maxHeartbeats 3200000 in
theorem step4_ok (B P n m k g b at' : Nat) (kd tb : Int) (row N : Nat) (R M : List Int) (s1 s2 va vr : Value) (T : Nat → Nat) (D : Nat → Value) (L : Nat → Nat → List Int) (col : Nat → Nat) (w : World) (hC : Core w n m k g b R M T L col) (hD : Docs w n m k R M s1 s2 D L col) (hB : Box B w P g k s1 s2 va vr T D col) (hF : Fresh B w col)
    (hmx : max tb 0 % (k : Int) = (at' : Int)) (hk : 0 < k) (hk6 : k ≤ 6) (hm : m ≤ 16) (hn : n ≤ 16384) (h1 : ¬ kd = 1) (h2 : ¬ kd = 2) (h3 : ¬ kd = 3) (s : Nat) (hr : row < m) (hi : N < (L at' row).length) (es : Ls.nth (L at' row) N = s) (hs : s < n) (h0 : 0 < Ls.nth R s) :
    Calls Try.prog 9 #[.pointer (some ⟨P, 0, none⟩), .agg #[.int .i64 kd, .int .i64 tb, .int .i64 row, .int .i64 N]] w fun e w' => e = .returned (.bool true) ∧ Below w.heap.size w w' := by
  have hlt : at' < k := by have := Int.emod_lt_of_pos (max tb 0) (show (0 : Int) < k by omega); omega
  obtain ⟨ab, ac, rb, rc, rfl, rfl, t0, d0, l1, l2⟩ := hB.cells hlt
  obtain ⟨da, dc, ed⟩ := (hD.2 at' hlt).slice
  rw [ed] at d0
  obtain ⟨⟨p0, p1, p2, p3, p4⟩, _⟩ := pl_cells hB.1
  obtain ⟨a1, c1, a2, c2, ei, ej, _⟩ := hD.1
  subst ei ej
  have plt : P < w.heap.size := hB.1.lt
  have HC : Hid (Core w n m k g b R M T L col) := hC
  have HD : Hid (Docs w n m k R M (.slice a1 n c1) (.slice a2 n c2) D L col) := hD
  have HB : Hid (Box B w P g k (.slice a1 n c1) (.slice a2 n c2) (.slice (some ⟨ab, 0, none⟩) k ac) (.slice (some ⟨rb, 0, none⟩) k rc) T D col) := hB
  have HF : Hid (Fresh B w col) := hF
  have HE : Hid (D at' = .slice da m dc) := ed
  have k1 : (kd == 1) = false := beq_eq_false_iff_ne.2 h1
  have k2 : (kd == 2) = false := beq_eq_false_iff_ne.2 h2
  have k3 : (kd == 3) = false := beq_eq_false_iff_ne.2 h3
  clear h1 h2 h3
  obtain ⟨n0, en⟩ : ∃ n0, (L at' row).length = n0 := ⟨_, rfl⟩
  have EN : Hid ((L at' row).length = n0) := en
  have EI : Hid (Ls.nth (L at' row) N = s ∧ 0 < Ls.nth R s ∧ N < (L at' row).length) := ⟨es, h0, hi⟩
  have z1 : decide ((row : Int) < (m : Int)) = true := decide_eq_true (by omega)
  have z2 : decide ((N : Int) < 0) = false := decide_eq_false (by omega)
  have z3 : decide ((n0 : Int) ≤ (N : Int)) = false := decide_eq_false (by omega)
  have hin : N < n0 := by omega
  clear hi es h0 en
  clear hC hD hB hF p0 ed
  obtain ⟨H, eH⟩ : ∃ H, w.heap.size = H := ⟨_, rfl⟩
  have EH : Hid (w.heap.size = H) := eH
  go_enter Try.func9, Try.ntmps9
  clear eH
  go_wp2
  go_region
  go_wp2
  go_region
  obtain ⟨u, hu⟩ : ∃ u, (w.alloc (.cells #[.int .i64 kd, .int .i64 tb, .int .i64 row, .int .i64 N] 27)).drew.drew = u := ⟨_, rfl⟩
  have UB : Hid (Below w.heap.size w u) := by rw [← hu]; exact (box_below _ _).drew.drew
  have UO : Hid (u.rowIs H 27 4 (opc kd tb row N)) := by rw [← hu, ← EH.out]; exact (op_alloc w kd tb row N).drew.drew
  have US : u.heap.size = H + 1 := by rw [← hu, ← EH.out]; simp
  have CU : Hid (Core u n m k g b R M T L col) := HC.out.keep UB.out
  have DU : Hid (Docs u n m k R M (.slice a1 n c1) (.slice a2 n c2) D L col) := HD.out.keep UB.out
  have BU : Hid (Box B u P g k (.slice a1 n c1) (.slice a2 n c2) (.slice (some ⟨ab, 0, none⟩) k ac) (.slice (some ⟨rb, 0, none⟩) k rc) T D col) := HB.out.keep UB.out
  have FU : Hid (Fresh B u col) := HF.out.keep UB.out.size
  have q0 : u.cell? ⟨H, 0, none⟩ = some (.int .i64 kd) := UO.out.cell (show 0 < 4 by decide)
  have q2 : u.cell? ⟨H, 2, none⟩ = some (.int .i64 row) := UO.out.cell (show 2 < 4 by decide)
  have q3 : u.cell? ⟨H, 3, none⟩ = some (.int .i64 N) := UO.out.cell (show 3 < 4 by decide)
  have Q2 : Hid (u.cell? ⟨H, 2, none⟩ = some (.int .i64 row)) := q2
  have Q3 : Hid (u.cell? ⟨H, 3, none⟩ = some (.int .i64 N)) := q3
  have Hlt : H < u.heap.size := by omega
  clear t0 d0 p1 p2 p3 p4 l1 l2
  rw [hu, EH.out]
  clear hu
  go_upto_region 28 with (go_at_call 20; refine (at_ok g b n (T at') m row N s R M (L at') _ _ CU.out.1 (CU.out.2.1 at' hlt).1 hr EI.out.2.2 EI.out.1 hs EI.out.2.1).mono ?_; rintro e w2 ⟨q, rfl, hq, hb⟩; have PQ : Hid (PgM w2 q (Ls.nth M s)) := hq; have B2 : Hid (Below u.heap.size u w2) := hb; clear hq hb)
  clear q2 q3
  have D2 := DU.out.keep B2.out
  obtain ⟨x1, y1, x2, y2, e1, e2, _, hM, _, _, _, _, _, lM⟩ := D2.1
  cases e1
  cases e2
  obtain ⟨mb, mo, e3, hMs⟩ := hM.get (show s < M.length by omega)
  have d8 := D2.2 at' hlt
  rw [HE.out] at d8
  obtain ⟨dd, d9, A, C, e9, hc9, _, hA, _⟩ := d8.cell hr
  cases e9
  obtain ⟨xb, xo, e4, hAs⟩ := hA.get EI.out.2.2
  subst e3 e4
  have m5 := hMs s (by omega)
  have m4 := hAs N EI.out.2.2
  rw [EI.out.1] at m4
  have m3 := hc9
  rw [EN.out] at m3
  have m2 : w2.cell? ⟨P, 2, none⟩ = some (.slice (some ⟨mb, mo, none⟩) n c2) := (pl_cells (BU.out.keep B2.out).1).1.2.2.1
  have m6 : w2.cell? ⟨H, 2, none⟩ = some (.int .i64 (row : Int)) := (B2.out.cell (p := ⟨H, 2, none⟩) Hlt).trans Q2.out
  have m7 : w2.cell? ⟨H, 3, none⟩ = some (.int .i64 (N : Int)) := (B2.out.cell (p := ⟨H, 3, none⟩) Hlt).trans Q3.out
  obtain ⟨mk, emk⟩ : ∃ mk, Ls.nth M s = mk := ⟨_, rfl⟩
  rw [emk] at m5
  have PK : Hid (PgM w2 q mk) := by rw [← emk]; exact PQ.out
  clear D2 hM hMs d8 hc9 hA hAs PQ emk lM
  go_quiet (fail)
  obtain ⟨u3, hu3⟩ : ∃ u3, w2.drewN nq = u3 := ⟨_, rfl⟩
  have B3 : Hid (Below w2.heap.size w2 u3) := by rw [← hu3]; exact below_drewN (Below.refl _ _) _
  have U3 : Hid (∀ a, u3.cell? a = w2.cell? a) := fun a => by rw [← hu3]; simp
  rw [hu3]
  clear hu3
  have n2 := (U3.out _).trans m2
  have n3 := (U3.out _).trans m3
  have n4 := (U3.out _).trans m4
  have n5 := (U3.out _).trans m5
  have n6 := (U3.out _).trans m6
  have n7 := (U3.out _).trans m7
  clear m2 m3 m4 m5 m6 m7
  have KS : Hid (∀ v, Below u3.heap.size u3 v → v.cell? ⟨P, 2, none⟩ = some (.slice (some ⟨mb, mo, none⟩) n c2) ∧ v.cell? ⟨H, 2, none⟩ = some (.int .i64 (row : Int)) ∧ v.cell? ⟨H, 3, none⟩ = some (.int .i64 (N : Int)) ∧ v.cell? ⟨dd, row, none⟩ = some (.slice (some ⟨xb, xo, none⟩) n0 C) ∧ v.cell? ⟨xb, xo + N, none⟩ = some (.int .i64 (s : Int)) ∧ v.cell? ⟨mb, mo + s, none⟩ = some (.int .i64 mk)) := fun v hv =>
    ⟨(hv.cell (World.block_lt_of_cell? _ _ n2)).trans n2, (hv.cell (World.block_lt_of_cell? _ _ n6)).trans n6, (hv.cell (World.block_lt_of_cell? _ _ n7)).trans n7, (hv.cell (World.block_lt_of_cell? _ _ n3)).trans n3, (hv.cell (World.block_lt_of_cell? _ _ n4)).trans n4, (hv.cell (World.block_lt_of_cell? _ _ n5)).trans n5⟩
  go_wp2
  go_region_held3 (fun w' => w'.cell? ⟨P, 2, none⟩ = some (.slice (some ⟨mb, mo, none⟩) n c2) ∧ w'.cell? ⟨H, 2, none⟩ = some (.int .i64 (row : Int)) ∧ w'.cell? ⟨H, 3, none⟩ = some (.int .i64 (N : Int)) ∧ w'.cell? ⟨dd, row, none⟩ = some (.slice (some ⟨xb, xo, none⟩) n0 C) ∧ w'.cell? ⟨xb, xo + N, none⟩ = some (.int .i64 (s : Int)) ∧ w'.cell? ⟨mb, mo + s, none⟩ = some (.int .i64 mk))
    (first
      | exact KS.out _ (Below.refl _ _).drew
      | exact KS.out _ B5.out)
    (first
      | (go_at_call 23; (with_reducible refine (headM_any q mk _ (PK.out.keep (B3.out.trans ((Below.refl u3.heap.size u3).drew.mono B3.out.size)))).mono ?_); rintro e w5 ⟨x0, x1, x2, x3, x4, x5, rfl, hb⟩; have hfd := field_mark x0 x1 x2 x3 x4 x5 mk; have B5 : Hid (Below u3.heap.size u3 w5) := ((Below.refl u3.heap.size u3).drew).trans hb; clear hb))
  go_wp2
  go_ret
  exact ⟨rfl, UB.out.trans ((B2.out.trans (B3.out.trans (B5.out.mono B3.out.size) |>.mono B2.out.size)).mono UB.out.size)⟩
set_option maxRecDepth 100000 in
set_option maxHeartbeats 3200000 in
theorem step2_six (B P n m k g b at' : Nat) (tb row N : Int) (R M : List Int) (s1 s2 va vr : Value) (T : Nat → Nat) (D : Nat → Value) (L : Nat → Nat → List Int) (col : Nat → Nat) (w : World) (hC : Core w n m k g b R M T L col) (hD : Docs w n m k R M s1 s2 D L col) (hB : Box B w P g k s1 s2 va vr T D col) (hF : Fresh B w col)
    (hmx : max tb 0 % (k : Int) = (at' : Int)) (hk : 0 < k) (hk6 : k ≤ 6) (hm : m ≤ 16) (hn : n ≤ 16384) (h6 : k = 6) :
    Calls Try.prog 9 #[.pointer (some ⟨P, 0, none⟩), .agg #[.int .i64 2, .int .i64 tb, .int .i64 row, .int .i64 N]] w fun e w' => e = .returned (.bool true) ∧ Below w.heap.size w w' := by
  have hlt : at' < k := by have := Int.emod_lt_of_pos (max tb 0) (show (0 : Int) < k by omega); omega
  obtain ⟨ab, ac, rb, rc, rfl, rfl, t0, d0, l1, l2⟩ := hB.cells hlt
  obtain ⟨da, dc, ed⟩ := (hD.2 at' hlt).slice
  rw [ed] at d0
  obtain ⟨⟨p0, p1, p2, p3, p4⟩, _⟩ := pl_cells hB.1
  obtain ⟨a1, c1, a2, c2, ei, ej, _⟩ := hD.1
  subst ei ej
  have plt : P < w.heap.size := hB.1.lt
  have HC : Hid (Core w n m k g b R M T L col) := hC
  have HD : Hid (Docs w n m k R M (.slice a1 n c1) (.slice a2 n c2) D L col) := hD
  have HB : Hid (Box B w P g k (.slice a1 n c1) (.slice a2 n c2) (.slice (some ⟨ab, 0, none⟩) k ac) (.slice (some ⟨rb, 0, none⟩) k rc) T D col) := hB
  have HF : Hid (Fresh B w col) := hF
  have HE : Hid (D at' = .slice da m dc) := ed
  have z6 : decide ((6 : Int) ≤ (k : Int)) = true := decide_eq_true (by omega)
  clear h6
  clear hC hD hB hF p0 ed
  obtain ⟨H, eH⟩ : ∃ H, w.heap.size = H := ⟨_, rfl⟩
  have EH : Hid (w.heap.size = H) := eH
  go_enter Try.func9, Try.ntmps9
  clear eH
  go_wp2
  go_region
  go_wp2
  go_region
  obtain ⟨u, hu⟩ : ∃ u, (w.alloc (.cells #[.int .i64 2, .int .i64 tb, .int .i64 row, .int .i64 N] 27)).drew.drew = u := ⟨_, rfl⟩
  have UB : Hid (Below w.heap.size w u) := by rw [← hu]; exact (box_below _ _).drew.drew
  have UO : Hid (u.rowIs H 27 4 (opc 2 tb row N)) := by rw [← hu, ← EH.out]; exact (op_alloc w 2 tb row N).drew.drew
  have US : u.heap.size = H + 1 := by rw [← hu, ← EH.out]; simp
  have CU : Hid (Core u n m k g b R M T L col) := HC.out.keep UB.out
  have DU : Hid (Docs u n m k R M (.slice a1 n c1) (.slice a2 n c2) D L col) := HD.out.keep UB.out
  have BU : Hid (Box B u P g k (.slice a1 n c1) (.slice a2 n c2) (.slice (some ⟨ab, 0, none⟩) k ac) (.slice (some ⟨rb, 0, none⟩) k rc) T D col) := HB.out.keep UB.out
  have FU : Hid (Fresh B u col) := HF.out.keep UB.out.size
  have q0 : u.cell? ⟨H, 0, none⟩ = some (.int .i64 2) := UO.out.cell (show 0 < 4 by decide)
  have q2 : u.cell? ⟨H, 2, none⟩ = some (.int .i64 row) := UO.out.cell (show 2 < 4 by decide)
  have q3 : u.cell? ⟨H, 3, none⟩ = some (.int .i64 N) := UO.out.cell (show 3 < 4 by decide)
  have Q2 : Hid (u.cell? ⟨H, 2, none⟩ = some (.int .i64 row)) := q2
  have Q3 : Hid (u.cell? ⟨H, 3, none⟩ = some (.int .i64 N)) := q3
  have Hlt : H < u.heap.size := by omega
  clear t0 d0 p1 p2 p3 p4 l1 l2
  rw [hu, EH.out]
  clear hu
  have p3 := (pl_cells BU.out.1).1.2.2.2.1
  go_wp2
  all_goals
    go_ret
    exact ⟨rfl, UB.out⟩
end Go.Proofs.Ytpifemahakbegaa
