/- Layer 13: CcAwake, CcFrame, CcPlay. -/
import Derived.Test.YtnchnlgnnlgjcaaGreatCn36
import Derived.Test.YtnchnlgnnlgjcaaGreatCn14
import Derived.Test.YtnchnlgnnlgjcaaGreatCn03
import Derived.Test.YtnchnlgnnlgjcaaGreatCn16
import Derived.Deep.Slices
import Derived.Deep.SlicePairs
import Derived.Deep.Matrix
import Derived.ChangeArms
import Derived.Test.YtnchnlgnnlgjcaaGreatCn35
import Derived.Test.YtnchnlgnnlgjcaaGreatCn32
import Derived.Test.YtnchnlgnnlgjcaaGreatCn25
namespace Go.Proofs.YtnchnlgnnlgjcaaGreat
set_option linter.unusedVariables false
set_option linter.unusedSimpArgs false
open Go.RowKit
namespace Cc
def awc (g b x : Nat) : Nat := if x = g ∨ x = b then 1000 else 0
set_option maxRecDepth 100000 in
set_option maxHeartbeats 6400000 in
theorem caAwake_any (w : World) : Calls Tryz.prog 9 #[] w fun e w' => e = .returned (.bool true) ∧ Below w.heap.size w w' := by
  go_enter Tryz.func9, Tryz.ntmps9
  go_wp2_with fail
  refine (newPool_ok 1 (by decide) _).mono ?_
  rintro e w1 ⟨g, b, rfl, hp, hg, hb, hbel⟩
  have P1 := Ca.hid hp
  have G1 := Ca.hid (And.intro hg hb)
  have B1 := Ca.hid hbel
  clear hp hg hb hbel
  go_wp2_with fail
  refine (some_any _).mono ?_
  rintro e w2 ⟨a, rfl, ha, hps, hbel⟩
  have P2 := Ca.hid (P1.out.keep hbel)
  have S2 := Ca.hid hps
  have B2 := Ca.hid (below_then B1.out hbel)
  clear ha hps hbel
  go_wp2_with fail
  refine (newC_ok 1 g 1 1 2 0 (some ⟨a, 0, none⟩) 1 aws (Po.zeros 1) (awc g b) _ S2.out aws_ok (fun x hx => by unfold awc; rw [if_neg]; have := P2.out.lt; omega) (by decide)).mono ?_
  rintro e w3 ⟨C, col, rfl, hc, hbel, x2, x3, x4⟩
  have lg := P2.out.lt
  have cg : col g = 1000 := by rw [x2 g lg.1]; unfold awc; rw [if_pos (.inl rfl)]
  have cb : col b = 1000 := by rw [x2 b lg.2]; unfold awc; rw [if_pos (.inr rfl)]
  have sz2 := B2.out.size
  have A3 : Hid (Aw w w3 g b C 0 col) := ⟨Po.zeros 1, Po.zeros 1, fun _ => [], P2.out.keep hbel, hc, rfl, fun i _ x hx => by simp at hx, rfl, x4, fun x hx => by rw [x2 x (by omega)]; unfold awc; rw [if_neg]; have := G1.out; omega, by rw [cg]; decide, by rw [cb]; decide, below_then B2.out hbel⟩
  clear hc hbel x2 x3 x4 cg cb sz2 lg P1 G1 B1 P2 S2 B2
  go_wp2_with fail
  refine (newC_bad g 0 0 0 0 none 0 [] _ (Tn.Tr.Ps.nil _ _) (by decide) (by decide)).mono ?_
  rintro e w4 ⟨rfl, hbel⟩
  have A4 := Ca.hid (A3.out.keep hbel)
  clear hbel A3
  go_wp2_with (first
    | (go_at_call 20; (with_reducible refine (put_open_c C g 1 1 2 0 aws 0 0 1 (.slice none 0 0) (.slice none 0 0) _ A4.out.bd (by decide) (by decide) (by decide) (by decide)).mono ?_); rintro e w5 ⟨rfl, hb⟩; have A5 := Ca.hid (A4.out.keep hb); clear hb)
    | (go_at_call 20; refine (put_shape_c C g 1 1 2 0 aws 0 0 none none 0 0 [] [] _ A5.out.bd (by decide) (by decide) (by decide) (by decide) (by decide) (fun i hi => by simp at hi) (fun i hi => by simp at hi) (by decide) (by decide) rfl).mono ?_; rintro e w6 ⟨rfl, hb⟩; have A6 := Ca.hid (A5.out.keep hb); clear hb))
  clear A4 A5
  go_loopw [7, 56] (fun v i wq => ∃ (j : Nat) (cl : Nat → Nat), j ≤ 3 ∧ v = .int .i64 j ∧ i = .int .i64 j ∧ Hid (Aw w wq g b C j cl) ∧ Hid (cl w6.heap.size = 0 ∧ wq.heap[w6.heap.size]? = some (.cells #[.int .i32 5, .int .i32 35, .int .i32 7] 21))) (fun _ i _ => 3 - (intOf i).toNat)
  case atStart =>
    refine ⟨0, col, Nat.zero_le _, rfl, rfl, A6.out.keep (box_below _ _), ?_, heap_alloc_new _ _⟩
    obtain ⟨_, _, _, _, _, _, _, _, h7, _⟩ := A6.out
    exact h7 _ (Nat.le_refl _)
  case round =>
    obtain ⟨j, cl, hj, rfl, rfl, AJ, SJ⟩ := hrel
    by_cases hlt : j < 3
    · have hS : Hid (∀ x, wr.heap.size ≤ x → cl x = 0) := by
        obtain ⟨_, _, _, _, _, _, _, _, h7, _⟩ := AJ.out
        exact h7
      have slt : w6.heap.size < wr.heap.size := (Array.getElem?_eq_some_iff.1 SJ.out.2).1
      have e0 : wr.cell? ⟨w6.heap.size, 0, none⟩ = some (.int .i32 5) := cell_of_row _ _ _ _ _ _ SJ.out.2
      have e1 : wr.cell? ⟨w6.heap.size, 1, none⟩ = some (.int .i32 35) := cell_of_row _ _ _ _ _ _ SJ.out.2
      have e2 : wr.cell? ⟨w6.heap.size, 2, none⟩ = some (.int .i32 7) := cell_of_row _ _ _ _ _ _ SJ.out.2
      rcases (show j = 0 ∨ j = 1 ∨ j = 2 by omega) with rfl | rfl | rfl
      all_goals
        go_wp2_with (go_at_call 20; refine (aw_put w g b C _ wr.heap.size _ _ _ _ _ _ cl _ (AJ.out.keep (four_boxes _ _ _ _ _)) hlt hS.out (four_rows wr _ _).1 (four_rows wr _ _).2 (by decide)).mono ?_; rintro e wz ⟨rfl, cz, az, hz⟩; have AZ := Ca.hid az; have HZ := Ca.hid (hz w6.heap.size (Nat.lt_of_lt_of_le slt (four_boxes wr _ _ _ _).size) SJ.out.1); clear az hz)
        go_roundw
        case rel => exact ⟨_, cz, by decide, rfl, rfl, AZ.out, HZ.out.2, by rw [HZ.out.1, (four_boxes wr _ _ _ _).block _ slt]; exact SJ.out.2⟩
        case measure => simp [intOf]
    · have ej : j = 3 := by omega
      subst ej
      obtain ⟨R, M, L, hp, hc, h3, h4, h5, h6, h7, h8, h9, h10⟩ := id AJ.out
      have HP := Ca.hid hp
      have HC := Ca.hid hc
      have HL := Ca.hid h4
      have H3 : Hid (Po.cnt R = 0) := h3
      have H5 : Hid (Bk.len L 1 = 1) := h5
      have HF := Ca.hid h6
      have BD := Ca.hid hc.bd
      clear hp hc h3 h4 h5 h6 h7 h8 h9 h10 SJ A6
      go_wp2_with (first
        | (go_at_call 22; refine (view_c C 1 g b 1 1 1 2 0 0 0 0 1 aws R M L 3 0 (fun _ => awT 3) (fun _ => 3 / 2) cl _ HP.out HC.out aws_ok (by decide) (by decide) rfl rfl (by decide) (awT_ok 3 (by decide)).2 HL.out).mono ?_; rintro e v1 ⟨x1, x2, xs, ys, rfl, tw, hb⟩; have tw : TwoN wr.heap.size v1 x1 x2 3 3 [[5], [35], [7]] [[-5], [-35], [-7]] xs ys := (by rw [← awk, ← awv]; exact tw); obtain ⟨a1, c1, rfl, t1, -⟩ := tw.tbl; obtain ⟨a2, c2, rfl, t2, -⟩ := tw.swap.tbl; obtain ⟨b1, o1, A1, C1, rfl, u1, u2, -⟩ := t1 1 (by decide); obtain ⟨b2, o2, A2, C2, rfl, u3, u4, -⟩ := t2 2 (by decide); obtain ⟨b3, o3, rfl, u5⟩ := u2 0 (by decide); obtain ⟨b4, o4, rfl, u6⟩ := u4 0 (by decide); have K1 : Hid (∀ v, Below v1.heap.size v1 v → v.cell? ⟨b1, o1 + 1, none⟩ = some (.slice (some ⟨b3, o3, none⟩) 1 C1) ∧ v.cell? ⟨b2, o2 + 2, none⟩ = some (.slice (some ⟨b4, o4, none⟩) 1 C2) ∧ v.cell? ⟨b3, o3, none⟩ = some (.int .i32 35) ∧ v.cell? ⟨b4, o4, none⟩ = some (.int .i32 (-7))) := (fun v hv => ⟨(hv.cell (p := ⟨b1, o1 + 1, none⟩) (World.block_lt_of_cell? v1 _ u1)).trans u1, (hv.cell (p := ⟨b2, o2 + 2, none⟩) (World.block_lt_of_cell? v1 _ u3)).trans u3, (hv.cell (p := ⟨b3, o3, none⟩) (World.block_lt_of_cell? v1 ⟨b3, o3 + 0, none⟩ u5)).trans u5, (hv.cell (p := ⟨b4, o4, none⟩) (World.block_lt_of_cell? v1 ⟨b4, o4 + 0, none⟩ u6)).trans u6⟩); have BV := Ca.hid hb; have hs1 := hb.size; clear tw t1 t2 u1 u2 u3 u4 u5 u6 hb)
        | (go_at_call 26; refine (tokens_c C g 1 1 2 0 aws 3 0 _ (BD.out.keep BV.out) (by decide) (by decide)).mono ?_; rintro e v2 ⟨rfl, hx⟩; have BT : Hid (Below v1.heap.size v1 v2) := (by obtain ⟨nq, rfl⟩ := hx; exact Rt.below_drewN (Below.refl _ _) _); have BV2 : Hid (Below wr.heap.size wr v2) := BV.out.trans (BT.out.mono hs1); have hs2 := BT.out.size; clear hx)
        | (go_at_call 33; refine (need_c C g 1 1 2 0 aws 3 0 1 true _ (BD.out.keep BV2.out) (by decide) (by decide) (by decide) (by decide) (by decide) (by decide) (by decide) (by decide) rfl).mono ?_; rintro e v3 ⟨rfl, hx⟩; have BT3 : Hid (Below v1.heap.size v1 v3) := BT.out.trans (hx.mono hs2); have BV3 : Hid (Below wr.heap.size wr v3) := BV.out.trans (BT3.out.mono hs1); have hs3 := BT3.out.size; clear hx)
        | (go_at_call 24; refine (pages_c C 1 g b 1 1 1 2 0 0 0 0 1 aws R M L 3 0 (fun _ => awT 3) (fun _ => 3 / 2) cl _ (HP.out.keep BV3.out) (HC.out.below BV3.out) aws_ok (by decide) (by decide) rfl rfl (by decide) HL.out).mono ?_; rintro e v4 ⟨pv, rfl, ho, hx⟩; obtain ⟨pa, pc, rfl⟩ := Ca.own_slice ho; have BT4 : Hid (Below v1.heap.size v1 v4) := BT3.out.trans (hx.mono hs3); have BV4 : Hid (Below wr.heap.size wr v4) := BV.out.trans (BT4.out.mono hs1); obtain ⟨q1, q2, q3, q4⟩ := K1.out _ BT4.out; clear hx ho)
        | (go_at_call 29; refine (free_any g b 1 0 R M _ (HP.out.keep BV4.out) H3.out).mono ?_; rintro e w' ⟨rfl, hww⟩; cases hww.symm; clear hww)
        | (go_at_call 20; refine (put_full_c C g b 1 1 1 2 0 aws R M 3 0 _ _ 1 1 [[1]] [[1]] _ (HP.out.keep (BV4.out.trans ((four_boxes v4 _ _ _ _).mono BV4.out.size))) (BD.out.keep (BV4.out.trans ((four_boxes v4 _ _ _ _).mono BV4.out.size))) (by decide) (by decide) (by decide) (by decide) (by decide) (by decide) (by decide) (by decide) (four_rows v4 1 1).1.tbl (four_rows v4 1 1).2.tbl (by decide) (by decide) rfl rfl (by decide) (by rw [H3.out]; decide)).mono ?_; rintro e v5 ⟨rfl, hx⟩; have BV5 : Hid (Below wr.heap.size wr v5) := (BV4.out.trans ((four_boxes v4 _ _ _ _).mono BV4.out.size)).trans (hx.mono (by have := BV4.out.size; have := (four_boxes v4 (.cells #[.int .i32 1] 21) (.cells #[.slice (some ⟨v4.heap.size, 0, none⟩) 1 1] 74) (.cells #[.int .i32 1] 21) (.cells #[.slice (some ⟨v4.heap.size + 1 + 1, 0, none⟩) 1 1] 74)).size; omega)); clear hx))
      refine (cut_ok_c C 1 g b 1 1 1 2 0 2 aws R M L 3 (fun _ => awT 3) (fun _ => 3 / 2) cl _ (HP.out.keep BV5.out) (HC.out.below BV5.out) aws_ok (by decide) (by decide) rfl (fun r hr => ⟨rfl, rfl⟩) (fun x hx => HF.out x (by have := BV5.out.size; omega)) (by decide)).mono ?_
      rintro e v6 ⟨rfl, hp6, hc6, hg6⟩
      have C6 := Ca.hid hc6
      have B6 := Ca.hid ((AJ.out.keep BV5.out).chg hg6)
      clear hp6 hc6 hg6
      go_wp2_with fail
      refine (cut_range_c C g 1 1 2 0 aws 2 1 _ C6.out.bd (by decide) (by decide) (by decide) (by decide) (by decide) (by decide) (.inr (.inr (by decide)))).mono ?_
      rintro e v7 ⟨rfl, hx⟩
      have B7 := Ca.hid hx
      have hs6 := B6.out.size
      have hs7 := hx.size
      clear hx
      go_wp2_with fail
      refine (slots_c C 1 g 1 1 2 0 1 aws M L (cn 1 2 0) _ _ cl _ (C6.out.below B7.out) (by decide) H5.out (by decide)).mono ?_
      rintro e v8 ⟨sa, sc, rfl, -, hx⟩
      have B8 := Ca.hid ((B6.out.trans (B7.out.mono hs6)).trans (hx.mono (by omega)))
      clear hx
      go_wp2_with fail
      go_ret
      exact ⟨rfl, B8.out⟩
end Cc
end Go.Proofs.YtnchnlgnnlgjcaaGreat
namespace Go.Proofs.YtnchnlgnnlgjcaaGreat
set_option linter.unusedVariables false
open Go.RowKit Go.ChangeShapes Go.WideShapes
namespace Cc
/-- A call: four numbers, two slices, what they read as. -/
abbrev Rec := Int × Int × Int × Int × (Option Addr × Nat) × (Option Addr × Nat) × List (List Int) × List (List Int)
def Op6 (B : Nat) (w : World) (b o i : Nat) (x : Rec) : Prop :=
  (w.cell? ⟨b, o + i * 6, none⟩ = some (.int .i64 x.1) ∧ w.cell? ⟨b, o + i * 6 + 1, none⟩ = some (.int .i64 x.2.1) ∧ w.cell? ⟨b, o + i * 6 + 2, none⟩ = some (.int .i64 x.2.2.1) ∧ w.cell? ⟨b, o + i * 6 + 3, none⟩ = some (.int .i64 x.2.2.2.1) ∧
    w.cell? ⟨b, o + i * 6 + 4, none⟩ = some (.slice x.2.2.2.2.1.1 x.2.2.2.2.2.2.1.length x.2.2.2.2.1.2) ∧ w.cell? ⟨b, o + i * 6 + 5, none⟩ = some (.slice x.2.2.2.2.2.1.1 x.2.2.2.2.2.2.2.length x.2.2.2.2.2.1.2)) ∧
    SlQ (fun q => q < B) 1 eRow w x.2.2.2.2.1.1 x.2.2.2.2.2.2.1 ∧ SlQ (fun q => q < B) 1 eRow w x.2.2.2.2.2.1.1 x.2.2.2.2.2.2.2 ∧ (∀ k, Ls.In32 (Ca.nt x.2.2.2.2.2.2.1 k)) ∧ ∀ k, Ls.In32 (Ca.nt x.2.2.2.2.2.2.2 k)
/-- THE SLICE AT a READS AS n CALLS, all of it below block B. -/
def Ops (B : Nat) (w : World) (a : Option Addr) (n : Nat) (K : Nat → Rec) : Prop := ∀ i, i < n → ∃ b o, a = some ⟨b, o, none⟩ ∧ b < B ∧ Op6 B w b o i (K i)
theorem Op6.keep {B b o i : Nat} {w w' : World} {x : Rec} (h : Op6 B w b o i x) (hl : b < B) (hb : Below B w w') : Op6 B w' b o i x := by
  obtain ⟨⟨h0, h1, h2, h3, h4, h5⟩, h6, h7, h8⟩ := h
  have e := hb.block b hl
  have k : ∀ {a : Option Addr} {l : List (List Int)}, SlQ (fun q => q < B) 1 eRow w a l → SlQ (fun q => q < B) 1 eRow w' a l := fun hs => hs.carry carry_row (fun q _ hq => ⟨hq, hb.block q hq⟩) hb.size
  have c : ∀ {j : Nat} {v : Value}, w.cell? ⟨b, j, none⟩ = some v → w'.cell? ⟨b, j, none⟩ = some v := fun {j} {v} hv => (World.cell?_of_block (a := ⟨b, j, none⟩) e).trans hv
  exact ⟨⟨c h0, c h1, c h2, c h3, c h4, c h5⟩, k h6, k h7, h8⟩
theorem Ops.keep {B n : Nat} {w w' : World} {a : Option Addr} {K : Nat → Rec} (h : Ops B w a n K) (hb : Below B w w') : Ops B w' a n K := fun i hi => by
  obtain ⟨b, o, e, hl, h6⟩ := h i hi
  exact ⟨b, o, e, hl, h6.keep hl hb⟩
theorem Ops.get {B n : Nat} {w : World} {a : Option Addr} {K : Nat → Rec} (h : Ops B w a n K) {i : Nat} (hi : i < n) : ∃ b o, a = some ⟨b, o, none⟩ ∧ b < B ∧ ∀ j, j < n → Op6 B w b o j (K j) := by
  obtain ⟨b, o, rfl, hl, _⟩ := h i hi
  refine ⟨b, o, rfl, hl, fun j hj => ?_⟩
  obtain ⟨b', o', e, _, h6⟩ := h j hj
  cases e
  exact h6
/-- A plan's layers, below block B. -/
def PsB (B : Nat) (w : World) (a : Option Addr) (ls : List (Int × Int)) : Prop := Tn.Tr.Ps w a ls ∧ ∀ x, a = some x → 0 < ls.length → x.block < B
theorem PsB.keep {B : Nat} {w w' : World} {a : Option Addr} {ls : List (Int × Int)} (h : PsB B w a ls) (hb : Below B w w') : PsB B w' a ls := by
  refine ⟨fun i hi => ?_, h.2⟩
  obtain ⟨b, o, e, h1, h2⟩ := h.1 i hi
  have eb := hb.block b (h.2 _ e (by omega))
  exact ⟨b, o, e, (World.cell?_of_block (a := ⟨b, o + i * 2, none⟩) eb).trans h1, (World.cell?_of_block (a := ⟨b, o + i * 2 + 1, none⟩) eb).trans h2⟩
end Cc
end Go.Proofs.YtnchnlgnnlgjcaaGreat
namespace Go.Proofs.YtnchnlgnnlgjcaaGreat
set_option linter.unusedVariables false
set_option linter.unusedSimpArgs false
open Go.RowKit
namespace Cc
/-- Lists of tokens, one a layer: t tokens each, the first k one more. -/
def Lay (T : List (List Tok)) (nl t k : Nat) : Prop := T.length = nl ∧ k < nl ∧ ∀ i, i < nl → (Ca.nt T i).length = lv t k i
def OkD (H D : Nat) (T : List (List Tok)) : Prop := ∀ i (j : Nat) (h : j < (Ca.nt T i).length), TokOk H D (Ca.nt T i)[j]
theorem nt_set {α : Type} {l : List (List α)} {k i : Nat} (hk : k < l.length) (y : List α) : Ca.nt (l.set k y) i = if i = k then y else Ca.nt l i := by
  unfold Ca.nt
  rw [List.getD_eq_getElem?_getD, List.getD_eq_getElem?_getD, List.getElem?_set]
  by_cases e : i = k
  · subst e; rw [if_pos rfl, if_pos hk, if_pos rfl]; rfl
  · rw [if_neg (fun q => e q.symm), if_neg e]
/-- A token more, of the layer that is next. -/
def layN (nl k : Nat) : Nat := if k + 1 = nl then 0 else k + 1
def layT (nl t k : Nat) : Nat := if k + 1 = nl then t + 1 else t
theorem Lay.put {T : List (List Tok)} {nl t k : Nat} (h : Lay T nl t k) (tok : Tok) : Lay (T.set k (Ca.nt T k ++ [tok])) nl (layT nl t k) (layN nl k) := by
  obtain ⟨h1, h2, h3⟩ := h
  refine ⟨by simp [h1], by unfold layN; split <;> omega, fun i hi => ?_⟩
  rw [nt_set (by omega)]
  by_cases e : i = k
  · subst e
    rw [if_pos rfl, List.length_append, h3 i h2]
    unfold lv layT layN
    by_cases q : i + 1 = nl
    · rw [if_pos q, if_pos q, if_neg (by omega), if_neg (by omega)]; rfl
    · rw [if_neg q, if_neg q, if_neg (by omega), if_pos (by omega)]; rfl
  · rw [if_neg e, h3 i hi]
    unfold lv layT layN
    by_cases q : k + 1 = nl
    · rw [if_pos q, if_pos q, if_pos (by omega), if_neg (by omega)]
    · rw [if_neg q, if_neg q]
      by_cases q2 : i < k
      · rw [if_pos q2, if_pos (by omega)]
      · rw [if_neg q2, if_neg (by omega)]
theorem nc_lay (nl t k : Nat) : nc nl t k = cn nl (layT nl t k) (layN nl k) := by
  unfold nc layT layN
  split <;> rfl
theorem OkD.put {H D : Nat} {T : List (List Tok)} (h : OkD H D T) {k : Nat} (hk : k < T.length) {tok : Tok} (ht : TokOk H D tok) : OkD H D (T.set k (Ca.nt T k ++ [tok])) := fun i j hj => by
  have e := nt_set (i := i) hk (Ca.nt T k ++ [tok])
  have key : ∀ l : List Tok, l = (if i = k then Ca.nt T k ++ [tok] else Ca.nt T i) → ∀ hj : j < l.length, TokOk H D l[j] := fun l hl hj => by
    by_cases q : i = k
    · rw [if_pos q] at hl
      subst hl
      by_cases q2 : j < (Ca.nt T k).length
      · rw [List.getElem_append_left q2]; exact h k j q2
      · rw [List.getElem_append_right (by omega)]
        have : j - (Ca.nt T k).length = 0 := by rw [List.length_append] at hj; simp at hj; omega
        simpa [this] using ht
    · rw [if_neg q] at hl
      subst hl
      exact h i j hj
  exact key _ e hj
/-- What a row was put. -/
def tkD (T : List (List Tok)) (H r : Nat) : List Tok := Ca.nt T (r / H)
def qD (G W : Nat) (T : List (List Tok)) (H r : Nat) : Nat := gn G W (Ca.nt T (r / H)).length
theorem tkD_put {T : List (List Tok)} {H k : Nat} (hH : 0 < H) (hk : k < T.length) (tok : Tok) (r : Nat) : tkj (tkD T H) tok H k H r = tkD (T.set k (Ca.nt T k ++ [tok])) H r := by
  rw [tkj_all _ _ hH]
  show (if r / H = k then Ca.nt T (r / H) ++ [tok] else Ca.nt T (r / H)) = Ca.nt (T.set k (Ca.nt T k ++ [tok])) (r / H)
  rw [nt_set hk]
  by_cases e : r / H = k
  · rw [if_pos e, if_pos e, e]
  · rw [if_neg e, if_neg e]
theorem qD_put {G W t : Nat} {T : List (List Tok)} {H k nl : Nat} (hH : 0 < H) (h : Lay T nl t k) (tok : Tok) (r : Nat) : qj (qD G W T H) (gn G W (t + 1)) H k H r = qD G W (T.set k (Ca.nt T k ++ [tok])) H r := by
  rw [qj_all _ _ hH]
  show (if r / H = k then gn G W (t + 1) else gn G W (Ca.nt T (r / H)).length) = gn G W (Ca.nt (T.set k (Ca.nt T k ++ [tok])) (r / H)).length
  rw [nt_set (by rw [h.1]; exact h.2.1)]
  by_cases e : r / H = k
  · rw [if_pos e, if_pos e, List.length_append, h.2.2 k h.2.1]
    unfold lv
    rw [if_neg (by omega)]
    rfl
  · rw [if_neg e, if_neg e]
theorem row_lt {r H nl : Nat} (h : r < nl * H) : r / H < nl := Nat.div_lt_of_lt_mul (by rw [Nat.mul_comm]; exact h)
/-- The eight cells of a play. -/
def plb (g H D G W : Nat) (vl va vr : Value) (i : Nat) : Value :=
  if i = 0 then .pointer (some ⟨g, 0, none⟩) else if i = 1 then .int .i64 H else if i = 2 then .int .i64 D else if i = 3 then .int .i64 G else if i = 4 then .int .i64 W else if i = 5 then vl else if i = 6 then va else vr
/-- ONE CACHE OF A PLAY, which was put T; f slots are free; all is new from block B on. -/
def Nd (B : Nat) (w0 w : World) (P g b C n H D G W : Nat) (ls : List (Int × Int)) (T : List (List Tok)) (t k f : Nat) (vl : Value) (vb vc : Nat) (vr : Value) (col : Nat → Nat) : Prop :=
  ∃ R M L, (w.rowIs P 50 8 (plb g H D G W vl (.slice (some ⟨vb, 0, none⟩) 1 vc) vr) ∧ col P = 1000) ∧ (Boxed w vb 55 (.pointer (some ⟨C, 0, none⟩)) ∧ col vb = 1000) ∧ PoolAt w g b n R M ∧
    CaAt w col 1 g C H D G W ls M L (cn ls.length t k) (tkD T H) (qD G W T H) ∧ (Lay T ls.length t k ∧ OkD H D T) ∧ Po.cnt R = f ∧ (∀ i, i < ls.length * H → ∀ x, x ∈ L i → 0 ≤ x ∧ x < n ∧ 0 < Ls.nth R x.toNat) ∧
    ((∀ x, w.heap.size ≤ x → col x = 0) ∧ (∀ x, x < B → col x = 0) ∧ col g = 1000 ∧ col b = 1000) ∧ Below B w0 w ∧ B ≤ w.heap.size
theorem Nd.keep {B P g b C n H D G W t k f vb vc : Nat} {w0 w w' : World} {ls : List (Int × Int)} {T : List (List Tok)} {vl vr : Value} {col : Nat → Nat} (h : Nd B w0 w P g b C n H D G W ls T t k f vl vb vc vr col) (hb : Below w.heap.size w w') : Nd B w0 w' P g b C n H D G W ls T t k f vl vb vc vr col := by
  obtain ⟨R, M, L, h1, h2, h3, h4, h5, h6, h7, h8, h10, h11⟩ := h
  have hs := hb.size
  exact ⟨R, M, L, ⟨h1.1.of_block (hb.block _ h1.1.lt), h1.2⟩, ⟨(hb.block _ h2.1.lt).trans h2.1, h2.2⟩, h3.keep hb, h4.below hb, h5, h6, h7, ⟨fun x hx => h8.1 x (by omega), h8.2⟩, h10.trans (hb.mono h11), by omega⟩
set_option maxHeartbeats 1600000 in
/-- A token more. -/
theorem nd_put (B P g b C n H D G W : Nat) (w0 : World) (ls : List (Int × Int)) (T : List (List Tok)) (t k f vb vc : Nat) (vl vr : Value) (col : Nat → Nat) (a1 a2 : Option Addr) (k1 k2 : Nat) (ks vs : List (List Int)) (q0 : Bool) (w : World) (h : Nd B w0 w P g b C n H D G W ls T t k f vl vb vc vr col) (sh : ShOk H D G W ls) (ht : t ≤ 500)
    (hks : SlQ (fun q => q < B) 1 eRow w a1 ks) (hvs : SlQ (fun q => q < B) 1 eRow w a2 vs) (f1 : Ca.fit H D ks = true) (f2 : Ca.fit H D vs = true) (i1 : ∀ k, Ls.In32 (Ca.nt ks k)) (i2 : ∀ k, Ls.In32 (Ca.nt vs k)) (hd : decide (gn G W t < gn G W (t + 1)) = q0) (hf : q0 = true → H ≤ f) :
    Calls Tryz.prog 20 #[.pointer (some ⟨C, 0, none⟩), .int .i64 (k : Int), .slice a1 ks.length k1, .slice a2 vs.length k2] w fun e w' => e = .returned (.int .i64 0) ∧ ∃ col' T', Nd B w0 w' P g b C n H D G W ls T' (layT ls.length t k) (layN ls.length k) (f - dn q0 H) vl vb vc vr col' ∧ ButQ g b (fun x => col x = 1) w w' ∧ (∀ x, x < w.heap.size → col' x = col x) := by
  obtain ⟨R, M, L, h1, h2, hp, hc, ⟨h5, h6⟩, h7, h8, ⟨c1, c2, cg, cb⟩, h10, h11⟩ := h
  obtain ⟨sH, sH2, sD, sD2, -⟩ := id sh
  have kd : ∀ {a : Option Addr} {l : List (List Int)}, SlQ (fun q => q < B) 1 eRow w a l → SlQ (fun x => ¬ x = g ∧ ¬ x = b ∧ ¬ col x = 1) 1 eRow w a l := fun hl => hl.carry carry_row (fun q _ hq => ⟨⟨fun e => by rw [← e, c2 q hq] at cg; exact absurd cg (by decide), fun e => by rw [← e, c2 q hq] at cb; exact absurd cb (by decide), by rw [c2 q hq]; decide⟩, rfl⟩) (Nat.le_refl _)
  have fit : ∀ {l : List (List Int)}, Ca.fit H D l = true → l.length = H ∧ ∀ i, i < H → (Ca.nt l i).length = D := fun {l} hf => by
    obtain ⟨e1, e2⟩ := Ca.fit_iff.1 hf
    exact ⟨e1, fun i hi => e2 i (by omega)⟩
  obtain ⟨l1, d1⟩ := fit f1
  obtain ⟨l2, d2⟩ := fit f2
  have ok : TokOk H D (ks, vs) := ⟨l1, l2, fun i hi => ⟨d1 i hi, d2 i hi, i1 i, i2 i⟩⟩
  have hkl : k < T.length := by rw [h5.1]; exact h5.2.1
  refine (put_ok_c C 1 g b n H D G W ls R M L t k (tkD T H) (qD G W T H) col a1 a2 k1 k2 ks vs q0 w hp hc sh h5.2.1 ht (fun r hr => ?_) (fun r hr i hi => h6 _ _ hi) (kd hks) (kd hvs) f1 f2 ok hd (fun e => by rw [h7]; exact hf e) h8 c1 (by decide) (by rw [cg]; decide) (by rw [cb]; decide)).mono ?_
  · have := h5.2.2 (r / H) (row_lt hr)
    exact ⟨by unfold qD; rw [this], this⟩
  · rintro e w' ⟨rfl, R', M', L', col', hp', hc', ⟨x1, x2, x3, x4⟩, ⟨y1, y2, y3, y4, y5, y6, y7, y8⟩⟩
    have lg := hp.lt
    have hs := x1.size
    have far : ∀ q, q < w.heap.size → ¬ q = g → ¬ q = b → ¬ col q = 1 → w'.heap[q]? = w.heap[q]? := fun q hq n1 n2 n3 => x1.block hq n1 n2 n3
    have gb : ∀ q, col q = 1000 → ¬ q = g → ¬ q = b → q < w.heap.size → w'.heap[q]? = w.heap[q]? := fun q hq n1 n2 hl => far q hl n1 n2 (by rw [hq]; decide)
    have lP := h1.1.lt
    have lv := h2.1.lt
    have tV := Rt.ty_box h2.1
    have tP := ty_row h1.1
    refine ⟨rfl, col', T.set k (Ca.nt T k ++ [(ks, vs)]), ⟨R', M', L', ⟨h1.1.of_block (gb P h1.2 (tP.ne hp.tys.1 (by decide)) (tP.ne hp.tys.2 (by decide)) lP), by rw [x2 P lP]; exact h1.2⟩, ⟨?_, by rw [x2 vb lv]; exact h2.2⟩, hp', ?_, ⟨h5.put _, h6.put hkl ok⟩, by omega, y5, ⟨x4, fun x hx => by rw [x2 x (by omega)]; exact c2 x hx, by rw [x2 g lg.1]; exact cg, by rw [x2 b lg.2]; exact cb⟩, ?_, by omega⟩, x1, x2⟩
    · exact (gb vb h2.2 (tV.ne hp.tys.1 (by decide)) (tV.ne hp.tys.2 (by decide)) lv).trans h2.1
    · rw [nc_lay] at hc'
      exact hc'.congr fun r hr => ⟨rfl, tkD_put sH hkl _ r, qD_put sH h5 _ r⟩
    · refine h10.trans ⟨x1.1, x1.2.1, x1.2.2.1, hs, fun q hq => ?_⟩
      have c0 := c2 q hq
      exact far q (by omega) (fun e => by rw [← e, c0] at cg; exact absurd cg (by decide)) (fun e => by rw [← e, c0] at cb; exact absurd cb (by decide)) (by rw [c0]; decide)
end Cc
end Go.Proofs.YtnchnlgnnlgjcaaGreat
