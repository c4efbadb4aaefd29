/- Contracts of the document's own answers of layer 7: Of. -/
import Derived.Test.YtimkfkolkplpdaaGreatGpBack
namespace Go.Proofs.YtimkfkolkplpdaaGreat
set_option linter.unusedVariables false
open Go.RowKit
attribute [local go_sem ↓] Go.wp_at_zero Go.wp_at_succ

/-- The three cells of a group. -/
def gcell (z sc : Int) (v : Value) (i : Nat) : Value := if i = 0 then .int .i32 z else if i = 1 then .int .u32 sc else v
theorem gcell_set (z sc : Int) (v v' : Value) (j : Nat) (hj : j < 3) : (if j = 2 then v' else gcell z sc v j) = gcell z sc v' j := by
  unfold gcell
  match j, hj with
  | 0, _ => rfl
  | 1, _ => rfl
  | 2, _ => rfl
theorem gcell_alloc (w : World) (z sc : Int) (v : Value) (t : TypeId) : (w.alloc (.cells #[.int .i32 z, .int .u32 sc, v] t)).rowIs w.heap.size t 3 (gcell z sc v) :=
  World.rowIs_alloc w #[.int .i32 z, .int .u32 sc, v] t _ (fun i hi => by match i, hi with | 0, _ => rfl | 1, _ => rfl | 2, _ => rfl)

/-- A row of the call's own stands where its block does. -/
theorem own_at {w w' : World} {base : Nat} {t : TypeId} {v : Value} {n : Nat} {xs : List Value} (h : w.ownsRow base t 1 v n xs) (hb : ∀ g, v.ownBlock = some g → w'.heap[g]? = w.heap[g]?) : w'.ownsRow base t 1 v n xs := by
  refine ⟨h.1, ?_⟩
  rcases h.2 with h0 | ⟨g, cap, cur, e, h1, h2, h3⟩
  · exact Or.inl h0
  · refine Or.inr ⟨g, cap, cur, e, h1, ?_, h3⟩
    subst e
    rw [hb g rfl]
    exact h2
theorem own_slice {w : World} {base : Nat} {t : TypeId} {v : Value} {n : Nat} {xs : List Value} (h : w.ownsRow base t 1 v n xs) : ∃ a c, v = .slice a n c := by
  rcases h.2 with ⟨e, hn⟩ | ⟨g, cap, cur, e, _⟩
  · exact ⟨none, 0, by rw [e, hn]⟩
  · exact ⟨_, _, e⟩
theorem own_set {w : World} {base : Nat} {t : TypeId} {v : Value} {n : Nat} {xs : List Value} (h : w.ownsRow base t 1 v n xs) {p : Addr} (hp : p.block < base) (y : Value) : (w.setCell p y).ownsRow base t 1 v n xs :=
  own_at h fun g hg => Go.Deep.blk_setCell_other _ _ _ _ (by have := (h.lt g hg).1; omega)

set_option maxRecDepth 100000 in
set_option maxHeartbeats 1600000 in
theorem refOf_new (a : Option Addr) (cp b s : Nat) (l : List Int) (w : World) (ha : Lst .i32 w a l) (hx : Ls.In32 l) (hst : Gp.St b s) (h0 : 0 < l.length) (hl : l.length ≤ 256) (z sc : Int) (ez : Gp.low l = z) (es : Gp.scale s l = sc) :
    Calls Tryz.prog 57 #[.slice a l.length cp, .int .i64 b] w fun e w' => ∃ a' c', e = .returned (.agg #[.int .i32 z, .int .u32 sc, .slice a' l.length c']) ∧
      Lst .i64 w' a' (Gp.codes z sc l) ∧ Below w.heap.size w w' ∧ ∀ x, a' = some x → w.heap.size ≤ x.block := by
  obtain ⟨i0, hi0, hi1, hi2, hi3⟩ := info_parts Tryz.infoIntG
  have bs := hst.bd
  have bd := Gp.spread_bd hx
  have sb := Gp.scale_bd (s := (s : Int)) hx (by omega)
  have HX : Hid (Ls.In32 l) := hx
  have HS : Hid (Gp.St b s) := hst
  have EZ : Hid (Gp.low l = z) := ez
  have ES : Hid (Gp.scale s l = sc) := es
  have zb : -2147483648 ≤ z ∧ z ≤ 2147483647 := by rw [← ez]; exact Gp.lowN_in hx l.length
  rw [es] at sb
  clear hx hst es
  obtain ⟨b1, o1, rfl, hc1⟩ := ha.get h0
  have HC : Hid (∀ j, j < l.length → w.cell? ⟨b1, o1 + j, none⟩ = some (.int .i32 (Ls.nth l j))) := hc1
  have hc0 : w.cell? ⟨b1, o1, none⟩ = some (.int .i32 (Ls.nth l 0)) := by have := hc1 0 h0; rwa [Nat.add_zero] at this
  have hx0 := HX.out 0
  have hlt1 : b1 < w.heap.size := World.block_lt_of_cell? w _ hc0
  clear hc1 ha ez
  go_enter Tryz.func57, Tryz.ntmps57
  go_wp2
  go_quiet (fail)
  go_wp2
  clear hc0
  go_loop [5, 6, 7] (fun lo hi i => ∃ k : Nat, k ≤ l.length ∧ i = .int .i64 k ∧ lo = .int .i64 (Gp.lowN l k) ∧ hi = .int .i64 (Gp.highN l k)) (fun _ _ i => l.length - (intOf i).toNat)
  case atStart => exact ⟨0, Nat.zero_le _, rfl, rfl, rfl⟩
  case round =>
    obtain ⟨k, hk, rfl, rfl, rfl⟩ := hrel
    by_cases hlt : k < l.length
    · have hck := HC.out k hlt
      have hxk := HX.out k
      by_cases c1 : Ls.nth l k < Gp.lowN l k
      · by_cases c2 : Gp.highN l k < Ls.nth l k
        · go_wp2
          go_round
          case rel => exact ⟨k + 1, by omega, by go_num, by simp only [Gp.lowN]; rw [Gp.lo2_yes c1], by simp only [Gp.highN]; rw [Gp.hi2_yes c2]⟩
          case measure => simp [intOf]; omega
        · go_wp2
          go_round
          case rel => exact ⟨k + 1, by omega, by go_num, by simp only [Gp.lowN]; rw [Gp.lo2_yes c1], by simp only [Gp.highN]; rw [Gp.hi2_no (by omega)]⟩
          case measure => simp [intOf]; omega
      · by_cases c2 : Gp.highN l k < Ls.nth l k
        · go_wp2
          go_round
          case rel => exact ⟨k + 1, by omega, by go_num, by simp only [Gp.lowN]; rw [Gp.lo2_no (by omega)], by simp only [Gp.highN]; rw [Gp.hi2_yes c2]⟩
          case measure => simp [intOf]; omega
        · go_wp2
          go_round
          case rel => exact ⟨k + 1, by omega, by go_num, by simp only [Gp.lowN]; rw [Gp.lo2_no (by omega)], by simp only [Gp.highN]; rw [Gp.hi2_no (by omega)]⟩
          case measure => simp [intOf]; omega
    · have e : k = l.length := by omega
      subst e
      have el : Gp.lowN l l.length = z := EZ.out
      obtain ⟨y, ey⟩ : ∃ y, Gp.highN l l.length = y := ⟨_, rfl⟩
      have yb : -2147483648 ≤ y ∧ y ≤ 2147483647 := by rw [← ey]; exact Gp.highN_in HX.out l.length
      have bd' : 0 ≤ y - z ∧ y - z ≤ 4294967295 := by rw [← ey, ← el]; exact bd
      have EU : Hid (Gp.up (y - z) s = sc) := by show _ = _; rw [← ey, ← el]; exact ES.out
      clear bd
      rw [el, ey]
      clear el ey
      obtain ⟨q, eq⟩ : ∃ q, (y - z) / s = q := ⟨_, rfl⟩
      have q0 : 0 ≤ q := by rw [← eq]; exact Int.ediv_nonneg bd'.1 (by omega)
      have q1 : 0 ≤ q * s := Int.mul_nonneg q0 (by omega)
      have q2 : q * s ≤ y - z := by rw [← eq]; exact Int.ediv_mul_le _ (by omega)
      have q3 : q ≤ q * s := by have := Int.mul_le_mul_of_nonneg_left (show (1 : Int) ≤ s by omega) q0; omega
      have hbr : (q * s < y - z ∧ q + 1 = sc) ∨ (¬ q * s < y - z ∧ q = sc) := by
        by_cases c : q * s < y - z
        · left; refine ⟨c, ?_⟩; rw [← EU.out, Gp.up_yes (by rw [eq]; exact c), eq]
        · right; refine ⟨c, ?_⟩; rw [← EU.out, Gp.up_no (by rw [eq]; exact c), eq]
      rcases hbr with ⟨cb, eb⟩ | ⟨cb, eb⟩
      rotate_left
      have eb' := eb.symm
      clear eb
      subst eb'
      have gb : decide (sc * s < y - z) = false := decide_eq_false cb
      rotate_left
      have gb : decide (q * s < y - z) = true := decide_eq_true cb
      all_goals
        go_wp2_with (go_at_call 64; refine (steps_any _ _ HS.out _).mono ?_; rintro r w' ⟨rfl, hw⟩; cases hw.symm; clear hw)
        go_loopw [10] (fun i wr => ∃ (k : Nat) (v : Value), k ≤ l.length ∧ i = .int .i64 k ∧ wr.rowIs (w.heap.size + 1) 72 3 (gcell z sc v) ∧ wr.ownsRow (w.heap.size + 2) 3 1 v k ((Ls.gen k fun j => Gp.code z sc (Ls.nth l j)).map (Value.int .i64)) ∧ Below (w.heap.size + 1) (w.alloc (.cells #[.int .i32 0, .int .u32 0, .slice none 0 0] 72)) wr) (fun i _ => l.length - (intOf i).toNat)
        case atStart =>
          refine ⟨0, .slice none 0 0, Nat.zero_le _, rfl, ?_, World.ownsRow_nil _ _ _ _, (below_drewN (Below.refl _ _) nq).alloc (by simp) _⟩
          have := gcell_alloc ((w.alloc (.cells #[.int .i32 0, .int .u32 0, .slice none 0 0] 72)).drewN nq) z sc (.slice none 0 0) 72
          simpa using this
        case round =>
          obtain ⟨k, v, hk, rfl, hrow, hown, hbel⟩ := hrel
          obtain ⟨va, vc, rfl⟩ := own_slice hown
          have hb0 : Below w.heap.size w wr := (box_below w _).trans (hbel.mono (by omega))
          have hsz : w.heap.size + 2 ≤ wr.heap.size := hrow.lt
          by_cases hlt : k < l.length
          · have hck : wr.cell? ⟨b1, o1 + k, none⟩ = some (.int .i32 (Ls.nth l k)) := by rw [hb0.cell (p := ⟨b1, o1 + k, none⟩) hlt1]; exact HC.out k hlt
            have hxk := HX.out k
            have d0 : wr.cell? ⟨w.heap.size + 1, 0, none⟩ = some (.int .i32 z) := hrow.cell (show 0 < 3 by decide)
            have d1 : wr.cell? ⟨w.heap.size + 1, 1, none⟩ = some (.int .u32 sc) := hrow.cell (show 1 < 3 by decide)
            have d2 : wr.cell? ⟨w.heap.size + 1, 2, none⟩ = some (.slice va k vc) := hrow.cell (show 2 < 3 by decide)
            have hrat : ∃ y : Int, y = Gp.code z sc (Ls.nth l k) := ⟨_, rfl⟩
            obtain ⟨cd, ecd⟩ := hrat
            have HCD : Hid (cd = Gp.code z sc (Ls.nth l k)) := ecd
            have HR : Hid (wr.rowIs (w.heap.size + 1) 72 3 (gcell z sc (.slice va k vc))) := hrow
            have HO : Hid (wr.ownsRow (w.heap.size + 2) 3 1 (.slice va k vc) k ((Ls.gen k fun j => Gp.code z sc (Ls.nth l j)).map (Value.int .i64))) := hown
            have HB : Hid (Below (w.heap.size + 1) (w.alloc (.cells #[.int .i32 0, .int .u32 0, .slice none 0 0] 72)) wr) := hbel
            clear hrow hown hbel hb0
            by_cases hp : 0 < sc
            rotate_left
            · have hcd0 : Hid (cd = 0) := by show _ = _; rw [ecd, Gp.code_no hp]
              have hp' : sc = 0 := by omega
              have g5 : decide (0 < sc) = false := decide_eq_false hp
              clear ecd hp hp'
              go_wp2_with (at_builtin; refine wpList_append_lies _ rfl _ _ _ rfl (w.heap.size + 2) 3 i0 _ 1 8 Tryz.underlying59 hi0 hi1 hi2 hi3 rfl (by omega) _ k _ (by rfl) (HO.out.alloc _) ⟨wr.heap.size, 0, none⟩ 1 1 [.int .i64 0] (by rfl) (by rfl) (World.news_of_block (cs := #[.int .i64 0]) (t := 3) (fr := (0, 0)) (heap_alloc_new wr _)) (by simp [Value.oneCell']) (by omega) (by unfold maxLen; omega) (by omega) (by simp; omega) (wr.heap.size + 1) (by simp) ?_; intro gg cap w1 hown1 hgrow hat hlt1; have R1 : Hid (w1.rowIs (w.heap.size + 1) 72 3 (gcell z sc (.slice va k vc))) := (HR.out.alloc _).of_block (hgrow.block _ (by simp; omega) (fun e => by have := (HO.out.lt _ e.symm).1; omega)); have B1 : Hid (Below (w.heap.size + 1) (w.alloc (.cells #[.int .i32 0, .int .u32 0, .slice none 0 0] 72)) w1) := (HB.out.alloc (by omega) _).grown hgrow (by simp; omega) (fun j hj => by have := (HO.out.lt j hj).1; omega); have O1 : Hid (w1.ownsRow (w.heap.size + 2) 3 1 (.slice (some ⟨gg, 0, none⟩) (k + 1) cap) (k + 1) ((Ls.gen k fun j => Gp.code z sc (Ls.nth l j)).map (Value.int .i64) ++ [.int .i64 0])) := hown1; have c0 : w1.cell? ⟨w.heap.size + 1, 0, none⟩ = some (.int .i32 z) := R1.out.cell (show 0 < 3 by decide); have c1 : w1.cell? ⟨w.heap.size + 1, 1, none⟩ = some (.int .u32 sc) := R1.out.cell (show 1 < 3 by decide); have c2 : w1.cell? ⟨w.heap.size + 1, 2, none⟩ = some (.slice va k vc) := R1.out.cell (show 2 < 3 by decide); have f2 := R1.out.frozen 2; clear hown1 hgrow hat)
              go_roundw
              case rel => exact ⟨k + 1, _, by omega, by go_num, (R1.out.set 2 _).congr (fun j hj => gcell_set z sc _ _ j hj), own_set (gen_snoc O1.out (by rw [← HCD.out, hcd0.out])) (by simp) _, B1.out.setCell (by simp) _⟩
              case measure => simp [intOf]; omega
            · have HP : Hid (Fx.rnd (Ls.nth l k - z) sc = cd) := by show _ = _; rw [ecd, Gp.code_yes hp]
              clear ecd
              go_wp2_with (first
                | (go_at_call 85; refine (refRatio_any _ _ (by omega) (by omega) hp (by omega) _).mono ?_; rintro r w' ⟨rfl, hw⟩; cases hw.symm; clear hw; rw [HP.out])
                | (at_builtin; refine wpList_append_lies _ rfl _ _ _ rfl (w.heap.size + 2) 3 i0 _ 1 8 Tryz.underlying59 hi0 hi1 hi2 hi3 rfl (by omega) _ k _ (by rfl) (HO.out.alloc _) ⟨wr.heap.size, 0, none⟩ 1 1 [.int .i64 cd] (by rfl) (by rfl) (World.news_of_block (cs := #[.int .i64 cd]) (t := 3) (fr := (0, 0)) (heap_alloc_new wr _)) (by simp [Value.oneCell']) (by omega) (by unfold maxLen; omega) (by omega) (by simp; omega) (wr.heap.size + 1) (by simp) ?_; intro gg cap w1 hown1 hgrow hat hlt1; have R1 : Hid (w1.rowIs (w.heap.size + 1) 72 3 (gcell z sc (.slice va k vc))) := (HR.out.alloc _).of_block (hgrow.block _ (by simp; omega) (fun e => by have := (HO.out.lt _ e.symm).1; omega)); have B1 : Hid (Below (w.heap.size + 1) (w.alloc (.cells #[.int .i32 0, .int .u32 0, .slice none 0 0] 72)) w1) := (HB.out.alloc (by omega) _).grown hgrow (by simp; omega) (fun j hj => by have := (HO.out.lt j hj).1; omega); have O1 : Hid (w1.ownsRow (w.heap.size + 2) 3 1 (.slice (some ⟨gg, 0, none⟩) (k + 1) cap) (k + 1) ((Ls.gen k fun j => Gp.code z sc (Ls.nth l j)).map (Value.int .i64) ++ [.int .i64 cd])) := hown1; have c0 : w1.cell? ⟨w.heap.size + 1, 0, none⟩ = some (.int .i32 z) := R1.out.cell (show 0 < 3 by decide); have c1 : w1.cell? ⟨w.heap.size + 1, 1, none⟩ = some (.int .u32 sc) := R1.out.cell (show 1 < 3 by decide); have c2 : w1.cell? ⟨w.heap.size + 1, 2, none⟩ = some (.slice va k vc) := R1.out.cell (show 2 < 3 by decide); have f2 := R1.out.frozen 2; clear hown1 hgrow hat))
              go_roundw
              case rel => exact ⟨k + 1, _, by omega, by go_num, (R1.out.set 2 _).congr (fun j hj => gcell_set z sc _ _ j hj), own_set (gen_snoc O1.out (HCD.out)) (by simp) _, B1.out.setCell (by simp) _⟩
              case measure => simp [intOf]; omega
          · have e : k = l.length := by omega
            subst e
            have d0 : wr.cell? ⟨w.heap.size + 1, 0, none⟩ = some (.int .i32 z) := hrow.cell (show 0 < 3 by decide)
            have d1 : wr.cell? ⟨w.heap.size + 1, 1, none⟩ = some (.int .u32 sc) := hrow.cell (show 1 < 3 by decide)
            have d2 : wr.cell? ⟨w.heap.size + 1, 2, none⟩ = some (.slice va l.length vc) := hrow.cell (show 2 < 3 by decide)
            have r0 : wr.rowIs w.heap.size 72 3 (gcell 0 0 (.slice none 0 0)) := (gcell_alloc w 0 0 (.slice none 0 0) 72).of_block (hbel.block _ (by omega))
            have c0 := r0.cell (show 0 < 3 by decide)
            have c1 := r0.cell (show 1 < 3 by decide)
            have c2 := r0.cell (show 2 < 3 by decide)
            have f0 := r0.frozen 0
            have f1 := r0.frozen 1
            have f2 := r0.frozen 2
            have HO : Hid (wr.ownsRow (w.heap.size + 2) 3 1 (.slice va l.length vc) l.length ((Ls.gen l.length fun j => Gp.code z sc (Ls.nth l j)).map (Value.int .i64)) ∧ Below w.heap.size w wr) := ⟨hown, hb0⟩
            clear hrow hown hbel hb0 r0
            go_wp2
            refine bodyPost_ret (v := .agg #[.int .i32 z, .int .u32 sc, .slice va l.length vc]) (by simp [results, Tryz.results57, go_sem, c0, c1, c2]) rfl ⟨va, vc, rfl, ?_, ?_, ?_⟩
            · have hm : l.length = (Gp.codes z sc l).length := (Gp.codes_length _ _ _).symm
              obtain ⟨a', c', h1, h2⟩ := lst_of_ownm (l := Gp.codes z sc l) (own_set (own_set (own_set HO.out.1 (p := ⟨w.heap.size, 0, none⟩) (by simp) _) (p := ⟨w.heap.size, 1, none⟩) (by simp) _) (p := ⟨w.heap.size, 2, none⟩) (by simp) _) hm
              cases h1
              exact h2
            · exact ((HO.out.2.setCell (by simp) _).setCell (by simp) _).setCell (by simp) _
            · intro x ex
              rcases HO.out.1.2 with ⟨e1, _⟩ | ⟨g, cap, cur, e1, hbg, _⟩
              · injection e1 with q1 _ _; rw [q1] at ex; cases ex
              · cases e1
                cases ex
                show w.heap.size ≤ g
                omega
theorem refOf_any (a : Option Addr) (cp b s : Nat) (l : List Int) (w : World) (ha : Lst .i32 w a l) (hx : Ls.In32 l) (hst : Gp.St b s) (h0 : 0 < l.length) (hl : l.length ≤ 256) (z sc : Int) (ez : Gp.low l = z) (es : Gp.scale s l = sc) :
    Calls Tryz.prog 57 #[.slice a l.length cp, .int .i64 b] w fun e w' => ∃ a' c', e = .returned (.agg #[.int .i32 z, .int .u32 sc, .slice a' l.length c']) ∧
      Lst .i64 w' a' (Gp.codes z sc l) ∧ Below w.heap.size w w' :=
  (refOf_new a cp b s l w ha hx hst h0 hl z sc ez es).mono fun e w' ⟨a', c', h1, h2, h3, _⟩ => ⟨a', c', h1, h2, h3⟩
end Go.Proofs.YtimkfkolkplpdaaGreat
