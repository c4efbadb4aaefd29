/- Layer 13: QoCalls, QoUsed. -/
import Derived.Test.YtnchnlgnnlgjcaaGreatCn09
namespace Go.Proofs.YtnchnlgnnlgjcaaGreat
set_option linter.unusedVariables false
open Go.RowKit
theorem loadA_any (g o : Nat) (x : Int) (w : World) (hc : w.cell? ⟨g, o, none⟩ = some (.int .i64 x)) :
    Calls Tryz.prog 76 #[.pointer (some ⟨g, o, none⟩)] w fun e w' => e = .returned (.int .i64 x) ∧ w' = w := by
  have hl := run_call_load (P := Tryz.prog) Tryz.func109 (by kernel_rfl) (by kernel_rfl) (by kernel_rfl) .i64 (by kernel_rfl) hc
  go_enter Tryz.func76, Tryz.ntmps76
  go_wp2
  go_ret
  exact ⟨rfl, rfl⟩
theorem storeA_any (g o : Nat) (x y : Int) (w : World) (hc : w.cell? ⟨g, o, none⟩ = some (.int .i64 x)) (hf : w.frozen? ⟨g, o, none⟩ = false) :
    Calls Tryz.prog 51 #[.pointer (some ⟨g, o, none⟩), .int .i64 y] w fun e w' => e = .returned (.tuple #[]) ∧ w' = w.setCell ⟨g, o, none⟩ (.int .i64 y) := by
  have hl := run_call_store (P := Tryz.prog) (y := y) (k := .i64) Tryz.func93 (by kernel_rfl) (by kernel_rfl) (by kernel_rfl) (by kernel_rfl) hc hf
  go_enter Tryz.func51, Tryz.ntmps51
  go_wp2
  go_end0
  exact ⟨rfl, rfl⟩
theorem addA_any (g o : Nat) (x y s : Int) (es : x + y = s) (h1 : -9223372036854775808 ≤ s) (h2 : s ≤ 9223372036854775807) (w : World) (hc : w.cell? ⟨g, o, none⟩ = some (.int .i64 x)) (hf : w.frozen? ⟨g, o, none⟩ = false) :
    Calls Tryz.prog 129 #[.pointer (some ⟨g, o, none⟩), .int .i64 y] w fun e w' => e = .returned (.int .i64 s) ∧ w' = w.setCell ⟨g, o, none⟩ (.int .i64 s) := by
  have hs : (Op.intArith .add .i64 x y).run Tryz.prog w = .ok (.int .i64 s) w := by
    simp [go_sem, IntKind.wrap_i64]
    omega
  have hl := run_call_add (P := Tryz.prog) Tryz.func145 (by kernel_rfl) (by kernel_rfl) (by kernel_rfl) .i64 (by kernel_rfl) hc hf hs
  go_enter Tryz.func129, Tryz.ntmps129
  go_wp2
  go_ret
  exact ⟨rfl, rfl⟩
theorem Tryz.infoSlot : (Tryz.prog.info? 133).map (fun i => (i.zero, i.size, i.bytes)) = some (some (.agg #[.pointer none, .int .i64 0]), 2, 16) := by kernel_rfl
theorem newPool_ok (n : Nat) (hn : n ≤ 16384) (w : World) :
    Calls Tryz.prog 17 #[.int .i64 n] w fun e w' => ∃ g b, e = .returned (.tuple #[.pointer (some ⟨g, 0, none⟩), .int .i64 0]) ∧ PoolAt w' g b n (Po.zeros n) (Po.zeros n) ∧ w.heap.size ≤ g ∧ w.heap.size ≤ b ∧ Below w.heap.size w w' := by
  have hmk := run_make_rows (P := Tryz.prog) 92 133 (.agg #[.pointer none, .int .i64 0]) #[.pointer none, .int .i64 0] 2 16 rfl Tryz.underlying92 Tryz.infoSlot .i64 .i64 n (by omega) (by omega)
  go_enter Tryz.func17, Tryz.ntmps17
  go_wp2_with fail
  clear hmk
  obtain ⟨u, hu⟩ : ∃ u, (w.alloc (.cells (madeCells #[.pointer none, .int .i64 0] (n * 2)) 133)).alloc (.cells #[.slice (some ⟨w.heap.size, 0, none⟩) n n, .int .i64 0] 99) = u := ⟨_, rfl⟩
  have h1 : Hid (u.rowIs (w.heap.size + 1) 99 2 (poc w.heap.size n 0)) := by
    have := World.rowIs_alloc (w.alloc (.cells (madeCells #[.pointer none, .int .i64 0] (n * 2)) 133)) #[.slice (some ⟨w.heap.size, 0, none⟩) n n, .int .i64 0] 99 (poc w.heap.size n 0) (by
      intro i hi
      match i, hi with
      | 0, _ => rfl
      | 1, _ => rfl)
    rw [hu] at this
    show u.rowIs _ _ _ _
    simpa using this
  have h2 : Hid (u.rowIs w.heap.size 133 (n * 2) (fun j => #[Value.pointer none, .int .i64 0][j % 2]!)) := by
    rw [← hu]
    exact (row_made w #[.pointer none, .int .i64 0] (n * 2) 133).of_block (Below.heap_alloc _ _ _ (by simp))
  have h3 : Hid (Below w.heap.size w u) := by rw [← hu]; exact two_boxes _ _ _
  rw [hu]
  clear hu
  refine (storeA_any (w.heap.size + 1) 1 0 n u (by rw [h1.out.cell (show 1 < 2 by decide)]; rfl) (h1.out.frozen 1)).mono ?_
  rintro e w' ⟨rfl, rfl⟩
  go_wp2
  go_ret2
  refine ⟨w.heap.size + 1, w.heap.size, rfl, PoolAt.made rfl ((h1.out.set 1 _).congr fun j hj => poc_set _ _ _ _ _ hj) (h2.out.of_block (Below.heap_setCell _ _ _ _ (by show w.heap.size ≠ w.heap.size + 1; omega))) (by omega) hn, by omega, Nat.le_refl _, h3.out.setCell (p := ⟨w.heap.size + 1, 1, none⟩) (by show w.heap.size ≤ w.heap.size + 1; omega) _⟩
theorem free_any (g b n c : Nat) (R M : List Int) (w : World) (h : PoolAt w g b n R M) (hc : Po.cnt R = c) :
    Calls Tryz.prog 29 #[.pointer (some ⟨g, 0, none⟩)] w fun e w' => e = .returned (.int .i64 c) ∧ w' = w := by
  obtain ⟨_, c1, _⟩ := h.cells
  rw [hc] at c1
  clear h hc
  go_enter Tryz.func29, Tryz.ntmps29
  go_wp2_with (go_at_call 76; refine (loadA_any _ _ _ _ c1).mono ?_; rintro e w' ⟨rfl, hww⟩; cases hww.symm; clear hww)
  go_ret
  exact ⟨rfl, rfl⟩
theorem held_some (g b n k : Nat) (R M : List Int) (w : World) (h : PoolAt w g b n R M) (hk : k < n) (hr : 0 < Ls.nth R k) :
    Calls Tryz.prog 86 #[.pointer (some ⟨g, 0, none⟩), .int .i64 k] w fun e w' => e = .returned (.pointer (some ⟨b, k * 2, none⟩)) ∧ w' = w := by
  obtain ⟨c0, _, _⟩ := h.cells
  obtain ⟨_, s1, _, _⟩ := h.slot hk
  obtain ⟨_, _, _, hn, _⟩ := h.nums
  obtain ⟨x, ex⟩ : ∃ x, Ls.nth R k = x := ⟨_, rfl⟩
  rw [ex] at s1 hr
  have z0 : (x == 0) = false := beq_eq_false_iff_ne.2 (by omega)
  clear h ex
  go_enter Tryz.func86, Tryz.ntmps86
  go_wp2_with (go_at_call 76; refine (loadA_any _ _ _ _ s1).mono ?_; rintro e w' ⟨rfl, hww⟩; cases hww.symm; clear hww)
  go_ret
  exact ⟨rfl, rfl⟩
theorem put_ok (g b n k q : Nat) (m : Int) (R M : List Int) (w : World) (h : PoolAt w g b n R M) (hk : k < n) (h0 : Ls.nth R k = 0) (hl : ∀ i, i < k → ¬ Ls.nth R i = 0) (hq : PgM w q m) (q1 : ¬ q = g) (q2 : ¬ q = b) :
    Calls Tryz.prog 126 #[.pointer (some ⟨g, 0, none⟩), .pointer (some ⟨q, 0, none⟩)] w fun e w' => e = .returned (.tuple #[.int .i64 k, .int .i64 0]) ∧ PoolAt w' g b n (R.set k 1) (M.set k m) ∧ But2 g b w w' := by
  obtain ⟨c0, c1, f1⟩ := h.cells
  obtain ⟨nbg, lR, _, hn, hp⟩ := h.nums
  have HP : Hid (PoolAt w g b n R M) := h
  have HL : Hid (∀ i, i < k → ¬ Ls.nth R i = 0) := hl
  have H0 : Hid (Ls.nth R k = 0) := h0
  have HQ : Hid (PgM w q m) := hq
  have hcl : Po.cnt R ≤ n := by rw [← lR]; exact Po.cnt_le R
  obtain ⟨ct, ect⟩ : ∃ c, Po.cnt R = c := ⟨_, rfl⟩
  have ECT : Hid (Po.cnt R = ct) := ect
  rw [ect] at c1 hcl
  clear h hl h0 hq hp lR ect
  go_enter Tryz.func126, Tryz.ntmps126
  go_wp2
  go_loop [13] (fun i => ∃ j : Nat, j ≤ k ∧ i = .int .i64 j) (fun i => k - (intOf i).toNat)
  case atStart => exact ⟨0, Nat.zero_le _, rfl⟩
  case round =>
    obtain ⟨j, hj, rfl⟩ := hrel
    by_cases e : j = k
    · subst e
      obtain ⟨⟨v0, s0⟩, s1, z0, z1⟩ := HP.out.slot hk
      rw [H0.out] at s1
      have t1 : (w.setCell ⟨b, j * 2, none⟩ (.pointer (some ⟨q, 0, none⟩))).cell? ⟨b, j * 2 + 1, none⟩ = some (.int .i64 0) := by rw [World.cell?_setCell_other _ _ _ _ (by simp)]; exact s1
      have y1 : (w.setCell ⟨b, j * 2, none⟩ (.pointer (some ⟨q, 0, none⟩))).frozen? ⟨b, j * 2 + 1, none⟩ = false := by simp [z1]
      have t2 : ((w.setCell ⟨b, j * 2, none⟩ (.pointer (some ⟨q, 0, none⟩))).setCell ⟨b, j * 2 + 1, none⟩ (.int .i64 1)).cell? ⟨g, 1, none⟩ = some (.int .i64 ct) := by
        rw [World.cell?_setCell_other _ _ _ _ (by simp), World.cell?_setCell_other _ _ _ _ (by simp)]; exact c1
      have y2 : ((w.setCell ⟨b, j * 2, none⟩ (.pointer (some ⟨q, 0, none⟩))).setCell ⟨b, j * 2 + 1, none⟩ (.int .i64 1)).frozen? ⟨g, 1, none⟩ = false := by simp [f1]
      have hc0 : 0 < ct := by rw [← ECT.out]; exact Po.cnt_pos (by rw [HP.out.nums.2.1]; exact hk) H0.out
      go_wp2_with (first
        | (go_at_call 76; refine (loadA_any _ _ _ _ s1).mono ?_; rintro e w' ⟨rfl, hww⟩; cases hww.symm; clear hww)
        | (go_at_call 51; refine (storeA_any _ _ _ _ _ t1 y1).mono ?_; rintro e w' ⟨rfl, rfl⟩)
        | (go_at_call 129; refine (addA_any _ _ _ _ ((ct : Int) - 1) (by omega) (by omega) (by omega) _ t2 y2).mono ?_; rintro e w' ⟨rfl, rfl⟩))
      go_ret2
      exact ⟨rfl, HP.out.put hk H0.out HQ.out q1 q2 (by rw [ECT.out]), (((But2.refl g b w).setB _ _).setB _ _).setG _ _⟩
    · have hjk : j < k := by omega
      obtain ⟨_, s1, _, _⟩ := HP.out.slot (show j < n by omega)
      have nz := HL.out j hjk
      obtain ⟨x, ex⟩ : ∃ x, Ls.nth R j = x := ⟨_, rfl⟩
      rw [ex] at s1 nz
      have z0 : (x == 0) = false := beq_eq_false_iff_ne.2 nz
      clear ex
      go_wp2_with (go_at_call 76; refine (loadA_any _ _ _ _ s1).mono ?_; rintro e w' ⟨rfl, hww⟩; cases hww.symm; clear hww)
      go_round
      case rel => exact ⟨j + 1, by omega, by go_num⟩
      case measure => simp [intOf]; omega
end Go.Proofs.YtnchnlgnnlgjcaaGreat
namespace Go.Proofs.YtnchnlgnnlgjcaaGreat
set_option linter.unusedVariables false
open Go.RowKit
theorem own_none {w : World} {base : Nat} {t : TypeId} {v : Value} {n : Nat} {xs : List Value} {a : Option Addr} {c : Nat} (h : w.ownsRow base t 1 v n xs) (e : v = .slice a n c) : a = none → c = 0 := by
  intro ea
  rcases h.2 with ⟨e1, _⟩ | ⟨g, cap, cur, e1, hbg, hg, _⟩
  · rw [e] at e1; cases e1; rfl
  · rw [e, ea] at e1; cases e1
end Go.Proofs.YtnchnlgnnlgjcaaGreat
