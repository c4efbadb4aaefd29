/- Layer 13: CcAw, CcAwake. -/
import Derived.Test.YtnchnlgnnlgjcaaGreatCn28
import Derived.Test.YtnchnlgnnlgjcaaGreatCn33
import Derived.Test.YtnchnlgnnlgjcaaGreatCn34
import Derived.Test.YtnchnlgnnlgjcaaGreatCn26
import Derived.Test.YtnchnlgnnlgjcaaGreatCn25
import Derived.Test.YtnchnlgnnlgjcaaGreatCn35
namespace Go.Proofs.YtnchnlgnnlgjcaaGreat
set_option linter.unusedVariables false
set_option linter.unusedSimpArgs false
open Go.RowKit
namespace Cc
def awT (j : Nat) : List Tok := ([([[5]], [[-5]]), ([[35]], [[-35]]), ([[7]], [[-7]])] : List Tok).take j
def aws : List (Int × Int) := [(2, 2)]
theorem aws_ok : ShOk 1 1 2 0 aws := by unfold ShOk; decide
theorem awk : vk aws 2 1 0 0 (awT 3) 1 = [[5], [35], [7]] := by decide
theorem awv : vv aws 2 1 0 0 (awT 3) 1 = [[-5], [-35], [-7]] := by decide
/-- THE LAW's OWN CACHE, which was put j tokens; all of it is new. -/
def Aw (w0 w : World) (g b C j : Nat) (col : Nat → Nat) : Prop :=
  ∃ R M L, PoolAt w g b 1 R M ∧ CaAt w col 1 g C 1 1 2 0 aws M L (cn 1 j 0) (fun _ => awT j) (fun _ => j / 2) ∧ Po.cnt R = 1 - j / 2 ∧ (∀ i, i < 1 → ∀ x, x ∈ L i → 0 ≤ x ∧ x < (1 : Nat) ∧ 0 < Ls.nth R x.toNat) ∧ Bk.len L 1 = j / 2 ∧
    (∀ x, w.heap.size ≤ x → col x = 0) ∧ (∀ x, x < w0.heap.size → col x = 0) ∧ (¬ col g = 1 ∧ ¬ col g = 0) ∧ (¬ col b = 1 ∧ ¬ col b = 0) ∧ Below w0.heap.size w0 w
theorem Aw.keep {w0 w w' : World} {g b C j : Nat} {col : Nat → Nat} (h : Aw w0 w g b C j col) (hb : Below w.heap.size w w') : Aw w0 w' g b C j col := by
  obtain ⟨R, M, L, h1, h2, h3, h4, h5, h6, h7, h8, h9, h10⟩ := h
  exact ⟨R, M, L, h1.keep hb, h2.below hb, h3, h4, h5, fun x hx => h6 x (by have := hb.size; omega), h7, h8, h9, h10.trans (hb.mono h10.size)⟩
theorem Aw.bd {w0 w : World} {g b C j : Nat} {col : Nat → Nat} (h : Aw w0 w g b C j col) : Bd w C g 1 1 2 0 aws j 0 := by
  obtain ⟨R, M, L, h1, h2, _⟩ := h
  exact h2.bd
theorem Aw.below {w0 w : World} {g b C j : Nat} {col : Nat → Nat} (h : Aw w0 w g b C j col) : Below w0.heap.size w0 w := by
  obtain ⟨R, M, L, _, _, _, _, _, _, _, _, _, h⟩ := h
  exact h
theorem awT_ok : ∀ j, j ≤ 3 → (awT j).length = j ∧ ∀ i (hi : i < (awT j).length), TokOk 1 1 (awT j)[i] := fun j hj => by
  have h3 : ∀ t : Tok, t ∈ ([([[5]], [[-5]]), ([[35]], [[-35]]), ([[7]], [[-7]])] : List Tok) → TokOk 1 1 t := fun t ht => by
    have cs : t = ([[5]], [[-5]]) ∨ t = ([[35]], [[-35]]) ∨ t = ([[7]], [[-7]]) := by simpa using ht
    have one : ∀ x : Int, -100 ≤ x → x ≤ 100 → Ls.In32 [x] := fun x h1 h2 => Ls.in32_mk fun i hi => by
      obtain rfl : i = 0 := by simpa using hi
      show -2147483648 ≤ x ∧ x ≤ 2147483647
      omega
    rcases cs with e | e | e <;> subst e
    · refine ⟨rfl, rfl, fun h hh => ?_⟩
      obtain rfl : h = 0 := by omega
      exact ⟨rfl, rfl, one 5 (by decide) (by decide), one (-5) (by decide) (by decide)⟩
    · refine ⟨rfl, rfl, fun h hh => ?_⟩
      obtain rfl : h = 0 := by omega
      exact ⟨rfl, rfl, one 35 (by decide) (by decide), one (-35) (by decide) (by decide)⟩
    · refine ⟨rfl, rfl, fun h hh => ?_⟩
      obtain rfl : h = 0 := by omega
      exact ⟨rfl, rfl, one 7 (by decide) (by decide), one (-7) (by decide) (by decide)⟩
  exact ⟨by unfold awT; rw [List.length_take]; simp; omega, fun i hi => h3 _ (List.mem_of_mem_take (List.getElem_mem hi))⟩
/-- A table of one row of one number. -/
theorem one_row (u : World) (x : Int) : SlQ (fun q => u.heap.size ≤ q) 1 eRow ((u.alloc (.cells #[.int .i32 x] 21)).alloc (.cells #[.slice (some ⟨u.heap.size, 0, none⟩) 1 1] 74)) (some ⟨u.heap.size + 1, 0, none⟩) [[x]] := fun i hi => by
  obtain rfl : i = 0 := by simpa using hi
  have e0 : ((u.alloc (.cells #[.int .i32 x] 21)).alloc (.cells #[.slice (some ⟨u.heap.size, 0, none⟩) 1 1] 74)).cell? ⟨u.heap.size, 0, none⟩ = some (.int .i32 x) := by
    rw [World.cell?_of_block (a := ⟨u.heap.size, 0, none⟩) (Below.heap_alloc _ _ _ (by show u.heap.size < _; simp))]
    exact World.cell?_alloc_new u _ _ _
  have e1 : ((u.alloc (.cells #[.int .i32 x] 21)).alloc (.cells #[.slice (some ⟨u.heap.size, 0, none⟩) 1 1] 74)).cell? ⟨u.heap.size + 1, 0, none⟩ = some (.slice (some ⟨u.heap.size, 0, none⟩) 1 1) := by
    have := World.cell?_alloc_new (u.alloc (.cells #[.int .i32 x] 21)) #[.slice (some ⟨u.heap.size, 0, none⟩) 1 1] 74 0
    rw [World.size_alloc] at this
    exact this
  refine ⟨u.heap.size + 1, 0, rfl, by simp, Nat.le_succ _, some ⟨u.heap.size, 0, none⟩, 1, e1, Nat.le_refl _, (by show 1 ≤ maxLen; decide), (fun e => nomatch e), fun k hk => ?_⟩
  obtain rfl : k = 0 := by simpa using hk
  exact ⟨u.heap.size, 0, rfl, by simp; omega, Nat.le_refl _, e0⟩
theorem four_boxes (u : World) (o1 o2 o3 o4 : Obj) : Below u.heap.size u ((((u.alloc o1).alloc o2).alloc o3).alloc o4) :=
  (((Below.refl _ u).alloc (Nat.le_refl _) o1).alloc (by simp) o2 |>.alloc (by simp; omega) o3).alloc (by simp; omega) o4
theorem four_rows (u : World) (y z : Int) : SlQ (fun q => u.heap.size ≤ q) 1 eRow ((((u.alloc (.cells #[.int .i32 y] 21)).alloc (.cells #[.slice (some ⟨u.heap.size, 0, none⟩) 1 1] 74)).alloc (.cells #[.int .i32 z] 21)).alloc (.cells #[.slice (some ⟨u.heap.size + 1 + 1, 0, none⟩) 1 1] 74)) (some ⟨u.heap.size + 1, 0, none⟩) [[y]] ∧
    SlQ (fun q => u.heap.size ≤ q) 1 eRow ((((u.alloc (.cells #[.int .i32 y] 21)).alloc (.cells #[.slice (some ⟨u.heap.size, 0, none⟩) 1 1] 74)).alloc (.cells #[.int .i32 z] 21)).alloc (.cells #[.slice (some ⟨u.heap.size + 1 + 1, 0, none⟩) 1 1] 74)) (some ⟨u.heap.size + 1 + 1 + 1, 0, none⟩) [[z]] := by
  constructor
  · exact (one_row u y).keep carry_row (two_boxes _ _ _)
  · have h := one_row ((u.alloc (.cells #[.int .i32 y] 21)).alloc (.cells #[.slice (some ⟨u.heap.size, 0, none⟩) 1 1] 74)) z
    have e : ((u.alloc (.cells #[.int .i32 y] 21)).alloc (.cells #[.slice (some ⟨u.heap.size, 0, none⟩) 1 1] 74)).heap.size = u.heap.size + 1 + 1 := by simp
    rw [e] at h
    exact h.carry carry_row (fun q _ hq => ⟨by omega, rfl⟩) (Nat.le_refl _)
theorem Aw.chg {w0 w w' : World} {g b C j : Nat} {col col' : Nat → Nat} (h : Aw w0 w g b C j col) (x : Chg 1 g b w w' col col') : Below w0.heap.size w0 w' := by
  obtain ⟨R, M, L, _, _, _, _, _, _, h7, h8, h9, h10⟩ := h
  obtain ⟨x1, _⟩ := x
  have s10 := h10.size
  refine ⟨x1.1.trans h10.os, x1.2.1.trans h10.tape, x1.2.2.1.trans h10.output, by have := x1.size; omega, fun q hq => ?_⟩
  have c0 := h7 q hq
  rw [x1.block (by omega) (fun e => h8.2 (by rw [← e]; exact c0)) (fun e => h9.2 (by rw [← e]; exact c0)) (fun e => by have e : col q = 1 := e; omega)]
  exact h10.block q hq
set_option maxHeartbeats 1600000 in
/-- The next token goes in. -/
theorem aw_put (w0 : World) (g b C j S : Nat) (y z : Int) (a1 a2 : Option Addr) (k1 k2 : Nat) (col : Nat → Nat) (w : World) (h : Aw w0 w g b C j col) (hj : j < 3) (hS : ∀ x, S ≤ x → col x = 0)
    (h1 : SlQ (fun q => S ≤ q) 1 eRow w a1 [[y]]) (h2 : SlQ (fun q => S ≤ q) 1 eRow w a2 [[z]]) (hy : awT (j + 1) = awT j ++ [([[y]], [[z]])]) :
    Calls Tryz.prog 20 #[.pointer (some ⟨C, 0, none⟩), .int .i64 0, .slice a1 1 k1, .slice a2 1 k2] w fun e w' => e = .returned (.int .i64 0) ∧ ∃ col', Aw w0 w' g b C (j + 1) col' ∧ ∀ q, q < w.heap.size → col q = 0 → w'.heap[q]? = w.heap[q]? ∧ col' q = 0 := by
  obtain ⟨R, M, L, hp, hc, h3, h4, h5, h6, h7, h8, h9, h10⟩ := h
  have kd : ∀ {a : Option Addr} {l : List (List Int)}, SlQ (fun q => S ≤ q) 1 eRow w a l → SlQ (fun x => ¬ x = g ∧ ¬ x = b ∧ ¬ col x = 1) 1 eRow w a l := fun hl => hl.carry carry_row (fun q _ hq => ⟨⟨fun e => h8.2 (by rw [← e]; exact hS q hq), fun e => h9.2 (by rw [← e]; exact hS q hq), by rw [hS q hq]; decide⟩, rfl⟩) (Nat.le_refl _)
  have ok := (awT_ok (j + 1) (by omega)).2
  have ot : TokOk 1 1 ([[y]], [[z]]) := by
    have l1 := (awT_ok j (by omega)).1
    have := ok j (by rw [hy]; simp; omega)
    simp only [hy] at this
    rw [List.getElem_append_right (by omega)] at this
    simpa [l1] using this
  have dq : ∃ q0, decide (gn 2 0 j < gn 2 0 (j + 1)) = q0 := ⟨_, rfl⟩
  obtain ⟨q0, dq⟩ := dq
  have g1 : gn 2 0 (j + 1) = (j + 1) / 2 := rfl
  have g0 : gn 2 0 j = j / 2 := rfl
  refine (put_ok_c C 1 g b 1 1 1 2 0 aws R M L j 0 (fun _ => awT j) (fun _ => j / 2) col a1 a2 k1 k2 [[y]] [[z]] q0 w hp hc aws_ok (by decide) (by omega) (fun r hr => ?_) (fun r _ => (awT_ok j (by omega)).2) (kd h1) (kd h2) rfl rfl ot dq (fun e => ?_) h4 h6 (by decide) h8 h9).mono ?_
  · have hr : r < 1 := hr
    obtain rfl : r = 0 := by omega
    exact ⟨rfl, (awT_ok j (by omega)).1⟩
  · rw [e, decide_eq_true_iff, g0, g1] at dq
    omega
  · rintro e w' ⟨rfl, R', M', L', col', hp', hc', ⟨x1, x2, x3, x4⟩, ⟨f1, f2, f3, f4, f5, f6, f7, f8⟩⟩
    have lg := hp.lt
    have hd : dn q0 1 + j / 2 = (j + 1) / 2 := by
      unfold dn
      cases q0 with
      | true => rw [decide_eq_true_iff, g0, g1] at dq; simp; omega
      | false => have := of_decide_eq_false dq; rw [g0, g1] at this; simp; omega
    have s10 := h10.size
    refine ⟨rfl, col', ⟨R', M', L', hp', ?_, by omega, f5, by have f7 : Bk.len L' 1 = Bk.len L 1 + dn q0 1 := f7; omega, x4, fun x hx => by rw [x2 x (by omega)]; exact h7 x hx, by rw [x2 g lg.1]; exact h8, by rw [x2 b lg.2]; exact h9, ?_⟩, fun q hq h0 => ⟨x1.block hq (fun e => h8.2 (by rw [← e]; exact h0)) (fun e => h9.2 (by rw [← e]; exact h0)) (fun e => by have e : col q = 1 := e; omega), by rw [x2 q hq]; exact h0⟩⟩
    · have h : CaAt w' col' 1 g C 1 1 2 0 aws M' L' (cn 1 (j + 1) 0) (tkj (fun _ => awT j) ([[y]], [[z]]) 1 0 1) (qj (fun _ => j / 2) (gn 2 0 (j + 1)) 1 0 1) := hc'
      refine h.congr fun r hr => ?_
      have hr : r < 1 := hr
      obtain rfl : r = 0 := by omega
      exact ⟨rfl, hy.symm, rfl⟩
    · refine ⟨x1.1.trans h10.os, x1.2.1.trans h10.tape, x1.2.2.1.trans h10.output, by have := x1.size; omega, fun q hq => ?_⟩
      have c0 := h7 q hq
      rw [x1.block (by omega) (fun e => h8.2 (by rw [← e]; exact c0)) (fun e => h9.2 (by rw [← e]; exact c0)) (fun e => by have e : col q = 1 := e; omega)]
      exact h10.block q hq
end Cc
end Go.Proofs.YtnchnlgnnlgjcaaGreat
namespace Go.Proofs.YtnchnlgnnlgjcaaGreat
set_option linter.unusedVariables false
set_option linter.unusedSimpArgs false
open Go.RowKit
namespace Cc
def awc (g b x : Nat) : Nat := if x = g ∨ x = b then 1000 else 0
set_option maxRecDepth 100000 in
set_option maxHeartbeats 6400000 in
theorem caAwake_any (w : World) : Calls Tryz.prog 9 #[] w fun e w' => e = .returned (.bool true) ∧ Below w.heap.size w w' := by
  go_enter Tryz.func9, Tryz.ntmps9
  go_wp2_with fail
  refine (newPool_ok 1 (by decide) _).mono ?_
  rintro e w1 ⟨g, b, rfl, hp, hg, hb, hbel⟩
  have P1 := Ca.hid hp
  have G1 := Ca.hid (And.intro hg hb)
  have B1 := Ca.hid hbel
  clear hp hg hb hbel
  go_wp2_with fail
  refine (some_any _).mono ?_
  rintro e w2 ⟨a, rfl, ha, hps, hbel⟩
  have P2 := Ca.hid (P1.out.keep hbel)
  have S2 := Ca.hid hps
  have B2 := Ca.hid (below_then B1.out hbel)
  clear ha hps hbel
  go_wp2_with fail
  refine (newC_ok 1 g 1 1 2 0 (some ⟨a, 0, none⟩) 1 aws (Po.zeros 1) (awc g b) _ S2.out aws_ok (fun x hx => by unfold awc; rw [if_neg]; have := P2.out.lt; omega) (by decide)).mono ?_
  rintro e w3 ⟨C, col, rfl, hc, hbel, x2, x3, x4⟩
  have lg := P2.out.lt
  have cg : col g = 1000 := by rw [x2 g lg.1]; unfold awc; rw [if_pos (.inl rfl)]
  have cb : col b = 1000 := by rw [x2 b lg.2]; unfold awc; rw [if_pos (.inr rfl)]
  have sz2 := B2.out.size
  have A3 : Hid (Aw w w3 g b C 0 col) := ⟨Po.zeros 1, Po.zeros 1, fun _ => [], P2.out.keep hbel, hc, rfl, fun i _ x hx => by simp at hx, rfl, x4, fun x hx => by rw [x2 x (by omega)]; unfold awc; rw [if_neg]; have := G1.out; omega, by rw [cg]; decide, by rw [cb]; decide, below_then B2.out hbel⟩
  clear hc hbel x2 x3 x4 cg cb sz2 lg P1 G1 B1 P2 S2 B2
  go_wp2_with fail
  refine (newC_bad g 0 0 0 0 none 0 [] _ (Tn.Tr.Ps.nil _ _) (by decide) (by decide)).mono ?_
  rintro e w4 ⟨rfl, hbel⟩
  have A4 := Ca.hid (A3.out.keep hbel)
  clear hbel A3
  go_wp2_with (first
    | (go_at_call 20; (with_reducible refine (put_open_c C g 1 1 2 0 aws 0 0 1 (.slice none 0 0) (.slice none 0 0) _ A4.out.bd (by decide) (by decide) (by decide) (by decide)).mono ?_); rintro e w5 ⟨rfl, hb⟩; have A5 := Ca.hid (A4.out.keep hb); clear hb)
    | (go_at_call 20; refine (put_shape_c C g 1 1 2 0 aws 0 0 none none 0 0 [] [] _ A5.out.bd (by decide) (by decide) (by decide) (by decide) (by decide) (fun i hi => by simp at hi) (fun i hi => by simp at hi) (by decide) (by decide) rfl).mono ?_; rintro e w6 ⟨rfl, hb⟩; have A6 := Ca.hid (A5.out.keep hb); clear hb))
  clear A4 A5
  go_loopw [7, 56] (fun v i wq => ∃ (j : Nat) (cl : Nat → Nat), j ≤ 3 ∧ v = .int .i64 j ∧ i = .int .i64 j ∧ Hid (Aw w wq g b C j cl) ∧ Hid (cl w6.heap.size = 0 ∧ wq.heap[w6.heap.size]? = some (.cells #[.int .i32 5, .int .i32 35, .int .i32 7] 21))) (fun _ i _ => 3 - (intOf i).toNat)
  case atStart =>
    refine ⟨0, col, Nat.zero_le _, rfl, rfl, A6.out.keep (box_below _ _), ?_, heap_alloc_new _ _⟩
    obtain ⟨_, _, _, _, _, _, _, _, h7, _⟩ := A6.out
    exact h7 _ (Nat.le_refl _)
  case round =>
    obtain ⟨j, cl, hj, rfl, rfl, AJ, SJ⟩ := hrel
    by_cases hlt : j < 3
    · have hS : Hid (∀ x, wr.heap.size ≤ x → cl x = 0) := by
        obtain ⟨_, _, _, _, _, _, _, _, h7, _⟩ := AJ.out
        exact h7
      have slt : w6.heap.size < wr.heap.size := (Array.getElem?_eq_some_iff.1 SJ.out.2).1
      have e0 : wr.cell? ⟨w6.heap.size, 0, none⟩ = some (.int .i32 5) := cell_of_row _ _ _ _ _ _ SJ.out.2
      have e1 : wr.cell? ⟨w6.heap.size, 1, none⟩ = some (.int .i32 35) := cell_of_row _ _ _ _ _ _ SJ.out.2
      have e2 : wr.cell? ⟨w6.heap.size, 2, none⟩ = some (.int .i32 7) := cell_of_row _ _ _ _ _ _ SJ.out.2
      rcases (show j = 0 ∨ j = 1 ∨ j = 2 by omega) with rfl | rfl | rfl
      all_goals
        go_wp2_with (go_at_call 20; refine (aw_put w g b C _ wr.heap.size _ _ _ _ _ _ cl _ (AJ.out.keep (four_boxes _ _ _ _ _)) hlt hS.out (four_rows wr _ _).1 (four_rows wr _ _).2 (by decide)).mono ?_; rintro e wz ⟨rfl, cz, az, hz⟩; have AZ := Ca.hid az; have HZ := Ca.hid (hz w6.heap.size (Nat.lt_of_lt_of_le slt (four_boxes wr _ _ _ _).size) SJ.out.1); clear az hz)
        go_roundw
        case rel => exact ⟨_, cz, by decide, rfl, rfl, AZ.out, HZ.out.2, by rw [HZ.out.1, (four_boxes wr _ _ _ _).block _ slt]; exact SJ.out.2⟩
        case measure => simp [intOf]
    · have ej : j = 3 := by omega
      subst ej
      obtain ⟨R, M, L, hp, hc, h3, h4, h5, h6, h7, h8, h9, h10⟩ := id AJ.out
      have HP := Ca.hid hp
      have HC := Ca.hid hc
      have HL := Ca.hid h4
      have H3 : Hid (Po.cnt R = 0) := h3
      have H5 : Hid (Bk.len L 1 = 1) := h5
      have HF := Ca.hid h6
      have BD := Ca.hid hc.bd
      clear hp hc h3 h4 h5 h6 h7 h8 h9 h10 SJ A6
      go_wp2_with (first
        | (go_at_call 22; refine (view_c C 1 g b 1 1 1 2 0 0 0 0 1 aws R M L 3 0 (fun _ => awT 3) (fun _ => 3 / 2) cl _ HP.out HC.out aws_ok (by decide) (by decide) rfl rfl (by decide) (awT_ok 3 (by decide)).2 HL.out).mono ?_; rintro e v1 ⟨x1, x2, xs, ys, rfl, tw, hb⟩; have tw : TwoN wr.heap.size v1 x1 x2 3 3 [[5], [35], [7]] [[-5], [-35], [-7]] xs ys := (by rw [← awk, ← awv]; exact tw); obtain ⟨a1, c1, rfl, t1, -⟩ := tw.tbl; obtain ⟨a2, c2, rfl, t2, -⟩ := tw.swap.tbl; obtain ⟨b1, o1, A1, C1, rfl, u1, u2, -⟩ := t1 1 (by decide); obtain ⟨b2, o2, A2, C2, rfl, u3, u4, -⟩ := t2 2 (by decide); obtain ⟨b3, o3, rfl, u5⟩ := u2 0 (by decide); obtain ⟨b4, o4, rfl, u6⟩ := u4 0 (by decide); have K1 : Hid (∀ v, Below v1.heap.size v1 v → v.cell? ⟨b1, o1 + 1, none⟩ = some (.slice (some ⟨b3, o3, none⟩) 1 C1) ∧ v.cell? ⟨b2, o2 + 2, none⟩ = some (.slice (some ⟨b4, o4, none⟩) 1 C2) ∧ v.cell? ⟨b3, o3, none⟩ = some (.int .i32 35) ∧ v.cell? ⟨b4, o4, none⟩ = some (.int .i32 (-7))) := (fun v hv => ⟨(hv.cell (p := ⟨b1, o1 + 1, none⟩) (World.block_lt_of_cell? v1 _ u1)).trans u1, (hv.cell (p := ⟨b2, o2 + 2, none⟩) (World.block_lt_of_cell? v1 _ u3)).trans u3, (hv.cell (p := ⟨b3, o3, none⟩) (World.block_lt_of_cell? v1 ⟨b3, o3 + 0, none⟩ u5)).trans u5, (hv.cell (p := ⟨b4, o4, none⟩) (World.block_lt_of_cell? v1 ⟨b4, o4 + 0, none⟩ u6)).trans u6⟩); have BV := Ca.hid hb; have hs1 := hb.size; clear tw t1 t2 u1 u2 u3 u4 u5 u6 hb)
        | (go_at_call 26; refine (tokens_c C g 1 1 2 0 aws 3 0 _ (BD.out.keep BV.out) (by decide) (by decide)).mono ?_; rintro e v2 ⟨rfl, hx⟩; have BT : Hid (Below v1.heap.size v1 v2) := (by obtain ⟨nq, rfl⟩ := hx; exact Rt.below_drewN (Below.refl _ _) _); have BV2 : Hid (Below wr.heap.size wr v2) := BV.out.trans (BT.out.mono hs1); have hs2 := BT.out.size; clear hx)
        | (go_at_call 33; refine (need_c C g 1 1 2 0 aws 3 0 1 true _ (BD.out.keep BV2.out) (by decide) (by decide) (by decide) (by decide) (by decide) (by decide) (by decide) (by decide) rfl).mono ?_; rintro e v3 ⟨rfl, hx⟩; have BT3 : Hid (Below v1.heap.size v1 v3) := BT.out.trans (hx.mono hs2); have BV3 : Hid (Below wr.heap.size wr v3) := BV.out.trans (BT3.out.mono hs1); have hs3 := BT3.out.size; clear hx)
        | (go_at_call 24; refine (pages_c C 1 g b 1 1 1 2 0 0 0 0 1 aws R M L 3 0 (fun _ => awT 3) (fun _ => 3 / 2) cl _ (HP.out.keep BV3.out) (HC.out.below BV3.out) aws_ok (by decide) (by decide) rfl rfl (by decide) HL.out).mono ?_; rintro e v4 ⟨pv, rfl, ho, hx⟩; obtain ⟨pa, pc, rfl⟩ := Ca.own_slice ho; have BT4 : Hid (Below v1.heap.size v1 v4) := BT3.out.trans (hx.mono hs3); have BV4 : Hid (Below wr.heap.size wr v4) := BV.out.trans (BT4.out.mono hs1); obtain ⟨q1, q2, q3, q4⟩ := K1.out _ BT4.out; clear hx ho)
        | (go_at_call 29; refine (free_any g b 1 0 R M _ (HP.out.keep BV4.out) H3.out).mono ?_; rintro e w' ⟨rfl, hww⟩; cases hww.symm; clear hww)
        | (go_at_call 20; refine (put_full_c C g b 1 1 1 2 0 aws R M 3 0 _ _ 1 1 [[1]] [[1]] _ (HP.out.keep (BV4.out.trans ((four_boxes v4 _ _ _ _).mono BV4.out.size))) (BD.out.keep (BV4.out.trans ((four_boxes v4 _ _ _ _).mono BV4.out.size))) (by decide) (by decide) (by decide) (by decide) (by decide) (by decide) (by decide) (by decide) (four_rows v4 1 1).1.tbl (four_rows v4 1 1).2.tbl (by decide) (by decide) rfl rfl (by decide) (by rw [H3.out]; decide)).mono ?_; rintro e v5 ⟨rfl, hx⟩; have BV5 : Hid (Below wr.heap.size wr v5) := (BV4.out.trans ((four_boxes v4 _ _ _ _).mono BV4.out.size)).trans (hx.mono (by have := BV4.out.size; have := (four_boxes v4 (.cells #[.int .i32 1] 21) (.cells #[.slice (some ⟨v4.heap.size, 0, none⟩) 1 1] 74) (.cells #[.int .i32 1] 21) (.cells #[.slice (some ⟨v4.heap.size + 1 + 1, 0, none⟩) 1 1] 74)).size; omega)); clear hx))
      refine (cut_ok_c C 1 g b 1 1 1 2 0 2 aws R M L 3 (fun _ => awT 3) (fun _ => 3 / 2) cl _ (HP.out.keep BV5.out) (HC.out.below BV5.out) aws_ok (by decide) (by decide) rfl (fun r hr => ⟨rfl, rfl⟩) (fun x hx => HF.out x (by have := BV5.out.size; omega)) (by decide)).mono ?_
      rintro e v6 ⟨rfl, hp6, hc6, hg6⟩
      have C6 := Ca.hid hc6
      have B6 := Ca.hid ((AJ.out.keep BV5.out).chg hg6)
      clear hp6 hc6 hg6
      go_wp2_with fail
      refine (cut_range_c C g 1 1 2 0 aws 2 1 _ C6.out.bd (by decide) (by decide) (by decide) (by decide) (by decide) (by decide) (.inr (.inr (by decide)))).mono ?_
      rintro e v7 ⟨rfl, hx⟩
      have B7 := Ca.hid hx
      have hs6 := B6.out.size
      have hs7 := hx.size
      clear hx
      go_wp2_with fail
      refine (slots_c C 1 g 1 1 2 0 1 aws M L (cn 1 2 0) _ _ cl _ (C6.out.below B7.out) (by decide) H5.out (by decide)).mono ?_
      rintro e v8 ⟨sa, sc, rfl, -, hx⟩
      have B8 := Ca.hid ((B6.out.trans (B7.out.mono hs6)).trans (hx.mono (by omega)))
      clear hx
      go_wp2_with fail
      go_ret
      exact ⟨rfl, B8.out⟩
end Cc
end Go.Proofs.YtnchnlgnnlgjcaaGreat
