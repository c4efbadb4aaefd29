/- Layer 13: CdSome, CcAw. -/
import Derived.Test.YtnchnlgnnlgjcaaGreatCn35
import Derived.Test.YtnchnlgnnlgjcaaGreatCn29
import Derived.Test.YtnchnlgnnlgjcaaGreatCn33
import Derived.Test.YtnchnlgnnlgjcaaGreatCn34
import Derived.Test.YtnchnlgnnlgjcaaGreatCn27
import Derived.Test.YtnchnlgnnlgjcaaGreatCn26
namespace Go.Proofs.YtnchnlgnnlgjcaaGreat
set_option linter.unusedVariables false
set_option linter.unusedSimpArgs false
open Go.RowKit
namespace Cc
theorem some_any (w : World) :
    Calls Tryz.prog 35 #[] w fun e w' => ∃ a, e = .returned (.agg #[.int .i64 1, .int .i64 1, .int .i64 2, .int .i64 0, .slice (some ⟨a, 0, none⟩) 1 1]) ∧ w.heap.size ≤ a ∧ Tn.Tr.Ps w' (some ⟨a, 0, none⟩) [((2 : Int), (2 : Int))] ∧ Below w.heap.size w w' := by
  go_enter Tryz.func35, Tryz.ntmps35
  go_wp2
  have hb : Below w.heap.size w ((w.alloc (.cells #[.int .i64 1, .int .i64 1, .int .i64 2, .int .i64 0, .slice (some ⟨w.heap.size + 1, 0, none⟩) 1 1] 26)).alloc (.cells #[.int .i64 2, .int .i64 2] 77)) := two_boxes _ _ _
  have r0 : ((w.alloc (.cells #[.int .i64 1, .int .i64 1, .int .i64 2, .int .i64 0, .slice (some ⟨w.heap.size + 1, 0, none⟩) 1 1] 26)).alloc (.cells #[.int .i64 2, .int .i64 2] 77)).rowIs w.heap.size 26 5 (Tn.scell 1 1 2 0 (.slice (some ⟨w.heap.size + 1, 0, none⟩) 1 1)) := (Tn.scell_alloc w 1 1 2 0 _ _).alloc _
  have y0 : ((w.alloc (.cells #[.int .i64 1, .int .i64 1, .int .i64 2, .int .i64 0, .slice (some ⟨w.heap.size + 1, 0, none⟩) 1 1] 26)).alloc (.cells #[.int .i64 2, .int .i64 2] 77)).cell? ⟨w.heap.size, 0, none⟩ = some (.int .i64 1) := r0.cell (show 0 < 5 by decide)
  have y1 : ((w.alloc (.cells #[.int .i64 1, .int .i64 1, .int .i64 2, .int .i64 0, .slice (some ⟨w.heap.size + 1, 0, none⟩) 1 1] 26)).alloc (.cells #[.int .i64 2, .int .i64 2] 77)).cell? ⟨w.heap.size, 1, none⟩ = some (.int .i64 1) := r0.cell (show 1 < 5 by decide)
  have y2 : ((w.alloc (.cells #[.int .i64 1, .int .i64 1, .int .i64 2, .int .i64 0, .slice (some ⟨w.heap.size + 1, 0, none⟩) 1 1] 26)).alloc (.cells #[.int .i64 2, .int .i64 2] 77)).cell? ⟨w.heap.size, 2, none⟩ = some (.int .i64 2) := r0.cell (show 2 < 5 by decide)
  have y3 : ((w.alloc (.cells #[.int .i64 1, .int .i64 1, .int .i64 2, .int .i64 0, .slice (some ⟨w.heap.size + 1, 0, none⟩) 1 1] 26)).alloc (.cells #[.int .i64 2, .int .i64 2] 77)).cell? ⟨w.heap.size, 3, none⟩ = some (.int .i64 0) := r0.cell (show 3 < 5 by decide)
  have y4 : ((w.alloc (.cells #[.int .i64 1, .int .i64 1, .int .i64 2, .int .i64 0, .slice (some ⟨w.heap.size + 1, 0, none⟩) 1 1] 26)).alloc (.cells #[.int .i64 2, .int .i64 2] 77)).cell? ⟨w.heap.size, 4, none⟩ = some (.slice (some ⟨w.heap.size + 1, 0, none⟩) 1 1) := r0.cell (show 4 < 5 by decide)
  have rp := World.rowIs_alloc (w.alloc (.cells #[.int .i64 1, .int .i64 1, .int .i64 2, .int .i64 0, .slice (some ⟨w.heap.size + 1, 0, none⟩) 1 1] 26)) #[.int .i64 2, .int .i64 2] 77 (fun _ => .int .i64 2) (fun i hi => by match i, hi with | 0, _ => rfl | 1, _ => rfl)
  rw [World.size_alloc] at rp
  refine bodyPost_ret (v := .agg #[.int .i64 1, .int .i64 1, .int .i64 2, .int .i64 0, .slice (some ⟨w.heap.size + 1, 0, none⟩) 1 1]) (by simp [results, Tryz.results35, go_sem, y0, y1, y2, y3, y4]) rfl ⟨w.heap.size + 1, rfl, by omega, fun i hi => ?_, hb⟩
  have hi : i < 1 := hi
  obtain rfl : i = 0 := by omega
  exact ⟨w.heap.size + 1, 0, rfl, rp.cell (show 0 < 2 by decide), rp.cell (show 1 < 2 by decide)⟩
end Cc
end Go.Proofs.YtnchnlgnnlgjcaaGreat
namespace Go.Proofs.YtnchnlgnnlgjcaaGreat
set_option linter.unusedVariables false
set_option linter.unusedSimpArgs false
open Go.RowKit
namespace Cc
def awT (j : Nat) : List Tok := ([([[5]], [[-5]]), ([[35]], [[-35]]), ([[7]], [[-7]])] : List Tok).take j
def aws : List (Int × Int) := [(2, 2)]
theorem aws_ok : ShOk 1 1 2 0 aws := by unfold ShOk; decide
theorem awk : vk aws 2 1 0 0 (awT 3) 1 = [[5], [35], [7]] := by decide
theorem awv : vv aws 2 1 0 0 (awT 3) 1 = [[-5], [-35], [-7]] := by decide
/-- THE LAW's OWN CACHE, which was put j tokens; all of it is new. -/
def Aw (w0 w : World) (g b C j : Nat) (col : Nat → Nat) : Prop :=
  ∃ R M L, PoolAt w g b 1 R M ∧ CaAt w col 1 g C 1 1 2 0 aws M L (cn 1 j 0) (fun _ => awT j) (fun _ => j / 2) ∧ Po.cnt R = 1 - j / 2 ∧ (∀ i, i < 1 → ∀ x, x ∈ L i → 0 ≤ x ∧ x < (1 : Nat) ∧ 0 < Ls.nth R x.toNat) ∧ Bk.len L 1 = j / 2 ∧
    (∀ x, w.heap.size ≤ x → col x = 0) ∧ (∀ x, x < w0.heap.size → col x = 0) ∧ (¬ col g = 1 ∧ ¬ col g = 0) ∧ (¬ col b = 1 ∧ ¬ col b = 0) ∧ Below w0.heap.size w0 w
theorem Aw.keep {w0 w w' : World} {g b C j : Nat} {col : Nat → Nat} (h : Aw w0 w g b C j col) (hb : Below w.heap.size w w') : Aw w0 w' g b C j col := by
  obtain ⟨R, M, L, h1, h2, h3, h4, h5, h6, h7, h8, h9, h10⟩ := h
  exact ⟨R, M, L, h1.keep hb, h2.below hb, h3, h4, h5, fun x hx => h6 x (by have := hb.size; omega), h7, h8, h9, h10.trans (hb.mono h10.size)⟩
theorem Aw.bd {w0 w : World} {g b C j : Nat} {col : Nat → Nat} (h : Aw w0 w g b C j col) : Bd w C g 1 1 2 0 aws j 0 := by
  obtain ⟨R, M, L, h1, h2, _⟩ := h
  exact h2.bd
theorem Aw.below {w0 w : World} {g b C j : Nat} {col : Nat → Nat} (h : Aw w0 w g b C j col) : Below w0.heap.size w0 w := by
  obtain ⟨R, M, L, _, _, _, _, _, _, _, _, _, h⟩ := h
  exact h
theorem awT_ok : ∀ j, j ≤ 3 → (awT j).length = j ∧ ∀ i (hi : i < (awT j).length), TokOk 1 1 (awT j)[i] := fun j hj => by
  have h3 : ∀ t : Tok, t ∈ ([([[5]], [[-5]]), ([[35]], [[-35]]), ([[7]], [[-7]])] : List Tok) → TokOk 1 1 t := fun t ht => by
    have cs : t = ([[5]], [[-5]]) ∨ t = ([[35]], [[-35]]) ∨ t = ([[7]], [[-7]]) := by simpa using ht
    have one : ∀ x : Int, -100 ≤ x → x ≤ 100 → Ls.In32 [x] := fun x h1 h2 => Ls.in32_mk fun i hi => by
      obtain rfl : i = 0 := by simpa using hi
      show -2147483648 ≤ x ∧ x ≤ 2147483647
      omega
    rcases cs with e | e | e <;> subst e
    · refine ⟨rfl, rfl, fun h hh => ?_⟩
      obtain rfl : h = 0 := by omega
      exact ⟨rfl, rfl, one 5 (by decide) (by decide), one (-5) (by decide) (by decide)⟩
    · refine ⟨rfl, rfl, fun h hh => ?_⟩
      obtain rfl : h = 0 := by omega
      exact ⟨rfl, rfl, one 35 (by decide) (by decide), one (-35) (by decide) (by decide)⟩
    · refine ⟨rfl, rfl, fun h hh => ?_⟩
      obtain rfl : h = 0 := by omega
      exact ⟨rfl, rfl, one 7 (by decide) (by decide), one (-7) (by decide) (by decide)⟩
  exact ⟨by unfold awT; rw [List.length_take]; simp; omega, fun i hi => h3 _ (List.mem_of_mem_take (List.getElem_mem hi))⟩
/-- A table of one row of one number. -/
theorem one_row (u : World) (x : Int) : SlQ (fun q => u.heap.size ≤ q) 1 eRow ((u.alloc (.cells #[.int .i32 x] 21)).alloc (.cells #[.slice (some ⟨u.heap.size, 0, none⟩) 1 1] 74)) (some ⟨u.heap.size + 1, 0, none⟩) [[x]] := fun i hi => by
  obtain rfl : i = 0 := by simpa using hi
  have e0 : ((u.alloc (.cells #[.int .i32 x] 21)).alloc (.cells #[.slice (some ⟨u.heap.size, 0, none⟩) 1 1] 74)).cell? ⟨u.heap.size, 0, none⟩ = some (.int .i32 x) := by
    rw [World.cell?_of_block (a := ⟨u.heap.size, 0, none⟩) (Below.heap_alloc _ _ _ (by show u.heap.size < _; simp))]
    exact World.cell?_alloc_new u _ _ _
  have e1 : ((u.alloc (.cells #[.int .i32 x] 21)).alloc (.cells #[.slice (some ⟨u.heap.size, 0, none⟩) 1 1] 74)).cell? ⟨u.heap.size + 1, 0, none⟩ = some (.slice (some ⟨u.heap.size, 0, none⟩) 1 1) := by
    have := World.cell?_alloc_new (u.alloc (.cells #[.int .i32 x] 21)) #[.slice (some ⟨u.heap.size, 0, none⟩) 1 1] 74 0
    rw [World.size_alloc] at this
    exact this
  refine ⟨u.heap.size + 1, 0, rfl, by simp, Nat.le_succ _, some ⟨u.heap.size, 0, none⟩, 1, e1, Nat.le_refl _, (by show 1 ≤ maxLen; decide), (fun e => nomatch e), fun k hk => ?_⟩
  obtain rfl : k = 0 := by simpa using hk
  exact ⟨u.heap.size, 0, rfl, by simp; omega, Nat.le_refl _, e0⟩
theorem four_boxes (u : World) (o1 o2 o3 o4 : Obj) : Below u.heap.size u ((((u.alloc o1).alloc o2).alloc o3).alloc o4) :=
  (((Below.refl _ u).alloc (Nat.le_refl _) o1).alloc (by simp) o2 |>.alloc (by simp; omega) o3).alloc (by simp; omega) o4
theorem four_rows (u : World) (y z : Int) : SlQ (fun q => u.heap.size ≤ q) 1 eRow ((((u.alloc (.cells #[.int .i32 y] 21)).alloc (.cells #[.slice (some ⟨u.heap.size, 0, none⟩) 1 1] 74)).alloc (.cells #[.int .i32 z] 21)).alloc (.cells #[.slice (some ⟨u.heap.size + 1 + 1, 0, none⟩) 1 1] 74)) (some ⟨u.heap.size + 1, 0, none⟩) [[y]] ∧
    SlQ (fun q => u.heap.size ≤ q) 1 eRow ((((u.alloc (.cells #[.int .i32 y] 21)).alloc (.cells #[.slice (some ⟨u.heap.size, 0, none⟩) 1 1] 74)).alloc (.cells #[.int .i32 z] 21)).alloc (.cells #[.slice (some ⟨u.heap.size + 1 + 1, 0, none⟩) 1 1] 74)) (some ⟨u.heap.size + 1 + 1 + 1, 0, none⟩) [[z]] := by
  constructor
  · exact (one_row u y).keep carry_row (two_boxes _ _ _)
  · have h := one_row ((u.alloc (.cells #[.int .i32 y] 21)).alloc (.cells #[.slice (some ⟨u.heap.size, 0, none⟩) 1 1] 74)) z
    have e : ((u.alloc (.cells #[.int .i32 y] 21)).alloc (.cells #[.slice (some ⟨u.heap.size, 0, none⟩) 1 1] 74)).heap.size = u.heap.size + 1 + 1 := by simp
    rw [e] at h
    exact h.carry carry_row (fun q _ hq => ⟨by omega, rfl⟩) (Nat.le_refl _)
theorem Aw.chg {w0 w w' : World} {g b C j : Nat} {col col' : Nat → Nat} (h : Aw w0 w g b C j col) (x : Chg 1 g b w w' col col') : Below w0.heap.size w0 w' := by
  obtain ⟨R, M, L, _, _, _, _, _, _, h7, h8, h9, h10⟩ := h
  obtain ⟨x1, _⟩ := x
  have s10 := h10.size
  refine ⟨x1.1.trans h10.os, x1.2.1.trans h10.tape, x1.2.2.1.trans h10.output, by have := x1.size; omega, fun q hq => ?_⟩
  have c0 := h7 q hq
  rw [x1.block (by omega) (fun e => h8.2 (by rw [← e]; exact c0)) (fun e => h9.2 (by rw [← e]; exact c0)) (fun e => by have e : col q = 1 := e; omega)]
  exact h10.block q hq
set_option maxHeartbeats 1600000 in
/-- The next token goes in. -/
theorem aw_put (w0 : World) (g b C j S : Nat) (y z : Int) (a1 a2 : Option Addr) (k1 k2 : Nat) (col : Nat → Nat) (w : World) (h : Aw w0 w g b C j col) (hj : j < 3) (hS : ∀ x, S ≤ x → col x = 0)
    (h1 : SlQ (fun q => S ≤ q) 1 eRow w a1 [[y]]) (h2 : SlQ (fun q => S ≤ q) 1 eRow w a2 [[z]]) (hy : awT (j + 1) = awT j ++ [([[y]], [[z]])]) :
    Calls Tryz.prog 20 #[.pointer (some ⟨C, 0, none⟩), .int .i64 0, .slice a1 1 k1, .slice a2 1 k2] w fun e w' => e = .returned (.int .i64 0) ∧ ∃ col', Aw w0 w' g b C (j + 1) col' ∧ ∀ q, q < w.heap.size → col q = 0 → w'.heap[q]? = w.heap[q]? ∧ col' q = 0 := by
  obtain ⟨R, M, L, hp, hc, h3, h4, h5, h6, h7, h8, h9, h10⟩ := h
  have kd : ∀ {a : Option Addr} {l : List (List Int)}, SlQ (fun q => S ≤ q) 1 eRow w a l → SlQ (fun x => ¬ x = g ∧ ¬ x = b ∧ ¬ col x = 1) 1 eRow w a l := fun hl => hl.carry carry_row (fun q _ hq => ⟨⟨fun e => h8.2 (by rw [← e]; exact hS q hq), fun e => h9.2 (by rw [← e]; exact hS q hq), by rw [hS q hq]; decide⟩, rfl⟩) (Nat.le_refl _)
  have ok := (awT_ok (j + 1) (by omega)).2
  have ot : TokOk 1 1 ([[y]], [[z]]) := by
    have l1 := (awT_ok j (by omega)).1
    have := ok j (by rw [hy]; simp; omega)
    simp only [hy] at this
    rw [List.getElem_append_right (by omega)] at this
    simpa [l1] using this
  have dq : ∃ q0, decide (gn 2 0 j < gn 2 0 (j + 1)) = q0 := ⟨_, rfl⟩
  obtain ⟨q0, dq⟩ := dq
  have g1 : gn 2 0 (j + 1) = (j + 1) / 2 := rfl
  have g0 : gn 2 0 j = j / 2 := rfl
  refine (put_ok_c C 1 g b 1 1 1 2 0 aws R M L j 0 (fun _ => awT j) (fun _ => j / 2) col a1 a2 k1 k2 [[y]] [[z]] q0 w hp hc aws_ok (by decide) (by omega) (fun r hr => ?_) (fun r _ => (awT_ok j (by omega)).2) (kd h1) (kd h2) rfl rfl ot dq (fun e => ?_) h4 h6 (by decide) h8 h9).mono ?_
  · have hr : r < 1 := hr
    obtain rfl : r = 0 := by omega
    exact ⟨rfl, (awT_ok j (by omega)).1⟩
  · rw [e, decide_eq_true_iff, g0, g1] at dq
    omega
  · rintro e w' ⟨rfl, R', M', L', col', hp', hc', ⟨x1, x2, x3, x4⟩, ⟨f1, f2, f3, f4, f5, f6, f7, f8⟩⟩
    have lg := hp.lt
    have hd : dn q0 1 + j / 2 = (j + 1) / 2 := by
      unfold dn
      cases q0 with
      | true => rw [decide_eq_true_iff, g0, g1] at dq; simp; omega
      | false => have := of_decide_eq_false dq; rw [g0, g1] at this; simp; omega
    have s10 := h10.size
    refine ⟨rfl, col', ⟨R', M', L', hp', ?_, by omega, f5, by have f7 : Bk.len L' 1 = Bk.len L 1 + dn q0 1 := f7; omega, x4, fun x hx => by rw [x2 x (by omega)]; exact h7 x hx, by rw [x2 g lg.1]; exact h8, by rw [x2 b lg.2]; exact h9, ?_⟩, fun q hq h0 => ⟨x1.block hq (fun e => h8.2 (by rw [← e]; exact h0)) (fun e => h9.2 (by rw [← e]; exact h0)) (fun e => by have e : col q = 1 := e; omega), by rw [x2 q hq]; exact h0⟩⟩
    · have h : CaAt w' col' 1 g C 1 1 2 0 aws M' L' (cn 1 (j + 1) 0) (tkj (fun _ => awT j) ([[y]], [[z]]) 1 0 1) (qj (fun _ => j / 2) (gn 2 0 (j + 1)) 1 0 1) := hc'
      refine h.congr fun r hr => ?_
      have hr : r < 1 := hr
      obtain rfl : r = 0 := by omega
      exact ⟨rfl, hy.symm, rfl⟩
    · refine ⟨x1.1.trans h10.os, x1.2.1.trans h10.tape, x1.2.2.1.trans h10.output, by have := x1.size; omega, fun q hq => ?_⟩
      have c0 := h7 q hq
      rw [x1.block (by omega) (fun e => h8.2 (by rw [← e]; exact c0)) (fun e => h9.2 (by rw [← e]; exact c0)) (fun e => by have e : col q = 1 := e; omega)]
      exact h10.block q hq
end Cc
end Go.Proofs.YtnchnlgnnlgjcaaGreat
