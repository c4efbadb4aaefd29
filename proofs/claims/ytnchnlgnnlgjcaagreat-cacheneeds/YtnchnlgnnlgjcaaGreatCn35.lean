/- Layer 13: CdRef, CdSome. -/
import Derived.Test.YtnchnlgnnlgjcaaGreatCn16
import Derived.Test.YtnchnlgnnlgjcaaGreatCn19
namespace Go.Proofs.YtnchnlgnnlgjcaaGreat
set_option linter.unusedVariables false
set_option linter.unusedSimpArgs false
open Go.RowKit
namespace Tn
open _root_.Go.Proofs.YtnchnlgnnlgjcaaGreat.Tn.Tr
def scell (H D g i : Int) (v : Value) (j : Nat) : Value := if j = 0 then .int .i64 H else if j = 1 then .int .i64 D else if j = 2 then .int .i64 g else if j = 3 then .int .i64 i else v
theorem scell_set (H D g i : Int) (v v' : Value) (j : Nat) (hj : j < 5) : (if j = 4 then v' else scell H D g i v j) = scell H D g i v' j := by
  match j, hj with
  | 0, _ => rfl
  | 1, _ => rfl
  | 2, _ => rfl
  | 3, _ => rfl
  | 4, _ => rfl
theorem scell_alloc (w : World) (H D g i : Int) (v : Value) (t : TypeId) : (w.alloc (.cells #[.int .i64 H, .int .i64 D, .int .i64 g, .int .i64 i, v] t)).rowIs w.heap.size t 5 (scell H D g i v) :=
  World.rowIs_alloc w _ _ _ (fun j hj => by match j, hj with | 0, _ => rfl | 1, _ => rfl | 2, _ => rfl | 3, _ => rfl | 4, _ => rfl)
set_option maxRecDepth 100000 in
set_option maxHeartbeats 1600000 in
theorem refShape_any (H D g i : Int) (a : Option Addr) (c : Nat) (ls : List (Int × Int)) (w : World) (hp : Ps w a ls) (hl : ls.length ≤ 8796093022207) :
    Calls Tryz.prog 12 #[.agg #[.int .i64 H, .int .i64 D, .int .i64 g, .int .i64 i, .slice a ls.length c]] w fun r w' => ∃ a' c', r = .returned (.agg #[.int .i64 H, .int .i64 D, .int .i64 g, .int .i64 i, .slice a' ls.length c']) ∧ Ps w' a' ls ∧ Below w.heap.size w w' ∧ (∀ x, a' = some x → w.heap.size ≤ x.block) := by
  obtain ⟨i0, hi0, hi1, hi2, hi3⟩ := info_parts Tryz.infoPair
  have HP : Hid (Ps w a ls) := hp
  clear hp
  go_enter Tryz.func12, Tryz.ntmps12
  go_wp2
  go_loopw [22] (fun k' wr => ∃ (k : Nat) (v : Value), k ≤ ls.length ∧ k' = .int .i64 k ∧ Hid (wr.rowIs (w.heap.size + 1 + 1) 39 5 (scell H D g i v)) ∧ Hid (wr.ownsRow (w.heap.size + 3) 78 2 v k (pflat ls k)) ∧ Hid (Below (w.heap.size + 2) ((w.alloc (.cells #[.int .i64 H, .int .i64 D, .int .i64 g, .int .i64 i, .slice a ls.length c] 26)).alloc (.cells #[.int .i64 0, .int .i64 0, .int .i64 0, .int .i64 0, .slice none 0 0] 39)) wr)) (fun k' _ => ls.length - (intOf k').toNat)
  case atStart =>
    refine ⟨0, .slice none 0 0, Nat.zero_le _, rfl, ?_, World.ownsRow_nil _ _ _ _, (Below.refl _ _).alloc (by simp) _⟩
    have := scell_alloc ((w.alloc (.cells #[.int .i64 H, .int .i64 D, .int .i64 g, .int .i64 i, .slice a ls.length c] 26)).alloc (.cells #[.int .i64 0, .int .i64 0, .int .i64 0, .int .i64 0, .slice none 0 0] 39)) H D g i (.slice none 0 0) 39
    simpa [Hid] using this
  case round =>
    obtain ⟨k, v, hk, rfl, HR, HO, HB⟩ := hrel
    obtain ⟨va, vc, rfl⟩ := own2_slice HO.out
    have B0 : Hid (Below w.heap.size w wr) := ((box_over w _).trans ((box_over _ _).mono (by simp))).trans (HB.out.mono (by omega))
    have hsz : w.heap.size + 1 + 1 < wr.heap.size := HR.out.lt
    have d2 : wr.cell? ⟨w.heap.size + 1 + 1, 4, none⟩ = some (.slice va k vc) := HR.out.cell (show 4 < 5 by decide)
    have f2 : wr.frozen? ⟨w.heap.size + 1 + 1, 4, none⟩ = false := HR.out.frozen 4
    by_cases hlt : k < ls.length
    · obtain ⟨b, o, rfl, hc⟩ := HP.out.get (by omega)
      have e0 := (hc k hlt).1
      have e1 := (hc k hlt).2
      have hbl : b < w.heap.size := World.block_lt_of_cell? w _ e0
      have e0 : wr.cell? ⟨b, o + k * 2, none⟩ = some (.int .i64 (fst ls k)) := by rw [B0.out.cell (p := ⟨b, o + k * 2, none⟩) hbl]; exact e0
      have e1 : wr.cell? ⟨b, o + k * 2 + 1, none⟩ = some (.int .i64 (snd ls k)) := by rw [B0.out.cell (p := ⟨b, o + k * 2 + 1, none⟩) hbl]; exact e1
      have hbl2 : b < wr.heap.size := by omega
      clear hc
      go_wp2_with (at_builtin; refine wpList_append_lies _ rfl _ _ _ rfl (w.heap.size + 3) 78 i0 _ 2 16 Tryz.underlying35 hi0 hi1 hi2 hi3 rfl (by omega) _ k _ (by rfl) ((HO.out.alloc _).alloc _) ⟨wr.heap.size + 1, 0, none⟩ 1 1 [.int .i64 (fst ls k), .int .i64 (snd ls k)] (by rfl) (by rfl) (World.news_of_block (cs := #[.int .i64 (fst ls k), .int .i64 (snd ls k)]) (t := 78) (fr := (0, 0)) (by first | exact heap_alloc_new _ _ | (have := heap_alloc_new (wr.alloc (.cells #[.int .i64 (fst ls k), .int .i64 (snd ls k)] 77)) (.cells #[.int .i64 (fst ls k), .int .i64 (snd ls k)] 78); simpa using this))) (by simp [Value.oneCell']) (by omega) (by unfold maxLen; omega) (by omega) (by simp; omega) (wr.heap.size + 1 + 1) (by simp) ?_; intro gg cap w1 hown1 hgrow hat hlt1; have R1 : Hid (w1.rowIs (w.heap.size + 1 + 1) 39 5 (scell H D g i (.slice va k vc))) := ((HR.out.alloc _).alloc _).of_block (hgrow.block _ (by simp; omega) (fun e => by have := (HO.out.lt _ e.symm).1; omega)); have B1 : Hid (Below (w.heap.size + 2) ((w.alloc (.cells #[.int .i64 H, .int .i64 D, .int .i64 g, .int .i64 i, .slice (some ⟨b, o, none⟩) ls.length c] 26)).alloc (.cells #[.int .i64 0, .int .i64 0, .int .i64 0, .int .i64 0, .slice none 0 0] 39)) w1) := ((HB.out.alloc (by omega) _).alloc (by simp; omega) _).grown hgrow (by simp; omega) (fun j hj => by have := (HO.out.lt j hj).1; omega); have O1 : Hid (w1.ownsRow (w.heap.size + 3) 78 2 (.slice (some ⟨gg, 0, none⟩) (k + 1) cap) (k + 1) (pflat ls (k + 1))) := hown1; have f2 : w1.frozen? ⟨w.heap.size + 1 + 1, 4, none⟩ = false := R1.out.frozen 4; have d2 : w1.cell? ⟨w.heap.size + 1 + 1, 4, none⟩ = some (.slice va k vc) := R1.out.cell (show 4 < 5 by decide); clear hown1 hgrow hat)
      go_roundw
      case rel => exact ⟨k + 1, _, by omega, by go_num, (R1.out.set 4 _).congr (fun j hj => scell_set H D g i _ _ j hj), own2_set O1.out (by simp) _, B1.out.setCell (by simp) _⟩
      case measure => simp [intOf]; omega
    · have e : k = ls.length := by omega
      subst e
      have d0 : wr.cell? ⟨w.heap.size + 1 + 1, 0, none⟩ = some (.int .i64 H) := HR.out.cell (show 0 < 5 by decide)
      have d1 : wr.cell? ⟨w.heap.size + 1 + 1, 1, none⟩ = some (.int .i64 D) := HR.out.cell (show 1 < 5 by decide)
      have d3 : wr.cell? ⟨w.heap.size + 1 + 1, 2, none⟩ = some (.int .i64 g) := HR.out.cell (show 2 < 5 by decide)
      have d4 : wr.cell? ⟨w.heap.size + 1 + 1, 3, none⟩ = some (.int .i64 i) := HR.out.cell (show 3 < 5 by decide)
      have r0 : wr.rowIs (w.heap.size + 1) 39 5 (scell 0 0 0 0 (.slice none 0 0)) := by
        have := scell_alloc (w.alloc (.cells #[.int .i64 H, .int .i64 D, .int .i64 g, .int .i64 i, .slice a ls.length c] 26)) 0 0 0 0 (.slice none 0 0) 39
        have h2 : ((w.alloc (.cells #[.int .i64 H, .int .i64 D, .int .i64 g, .int .i64 i, .slice a ls.length c] 26)).alloc (.cells #[.int .i64 0, .int .i64 0, .int .i64 0, .int .i64 0, .slice none 0 0] 39)).rowIs (w.heap.size + 1) 39 5 (scell 0 0 0 0 (.slice none 0 0)) := by simpa using this
        exact h2.of_block (HB.out.block _ (by omega))
      have c0 := r0.cell (show 0 < 5 by decide)
      have c1 := r0.cell (show 1 < 5 by decide)
      have c2 := r0.cell (show 2 < 5 by decide)
      have c3 := r0.cell (show 3 < 5 by decide)
      have c4 := r0.cell (show 4 < 5 by decide)
      have g0 := r0.frozen 0
      have g1 := r0.frozen 1
      have g2 := r0.frozen 2
      have g3 := r0.frozen 3
      have g4 := r0.frozen 4
      clear r0
      go_wp2
      refine bodyPost_ret (v := .agg #[.int .i64 H, .int .i64 D, .int .i64 g, .int .i64 i, .slice va ls.length vc]) (by simp [results, Tryz.results12, go_sem, c0, c1, c2, c3, c4]) rfl ⟨va, vc, rfl, ?_, ?_, fun x e => by have := (HO.out.lt x.block (by rw [e]; rfl)).1; omega⟩
      · exact (ps_of_own (own2_set (own2_set (own2_set (own2_set (own2_set HO.out (p := ⟨w.heap.size + 1, 0, none⟩) (by simp) _) (p := ⟨w.heap.size + 1, 1, none⟩) (by simp) _) (p := ⟨w.heap.size + 1, 2, none⟩) (by simp) _) (p := ⟨w.heap.size + 1, 3, none⟩) (by simp) _) (p := ⟨w.heap.size + 1, 4, none⟩) (by simp) _) rfl).1
      · exact (((((B0.out.setCell (by simp) _).setCell (by simp) _).setCell (by simp) _).setCell (by simp) _).setCell (by simp) _)
/-- 'credenzaref13.Right'. -/
theorem refRight13_any (H D g i : Int) (a : Option Addr) (c : Nat) (ls : List (Int × Int)) (q : Bool) (w : World) (hp : Ps w a ls) (hl : ls.length ≤ maxLen) (hq : decide (1 ≤ H ∧ H ≤ 4 ∧ 1 ≤ D ∧ D ≤ 16 ∧ right g i ls = 0) = q) :
    Calls Tryz.prog 11 #[.agg #[.int .i64 H, .int .i64 D, .int .i64 g, .int .i64 i, .slice a ls.length c]] w fun e w' => e = .returned (.bool q) ∧ Below w.heap.size w w' := by
  have HP : Hid (Ps w a ls) := hp
  have B0 : Hid (Below w.heap.size w (w.alloc (.cells #[.int .i64 H, .int .i64 D, .int .i64 g, .int .i64 i, .slice a ls.length c] 39))) := box_over _ _
  clear hp
  by_cases h1 : 1 ≤ H
  · by_cases h2 : H ≤ 4
    · by_cases h3 : 1 ≤ D
      · by_cases h4 : D ≤ 16
        · obtain ⟨e, he⟩ : ∃ e, right g i ls = e := ⟨_, rfl⟩
          have HE : Hid (right g i ls = e) := he
          rw [he] at hq
          have d : (e == 0) = q := by rw [← hq, Bool.eq_iff_iff]; simp [h1, h2, h3, h4]
          have d1 : decide (1 ≤ H) = true := decide_eq_true h1
          have d2 : decide (H ≤ 4) = true := decide_eq_true h2
          have d3 : decide (1 ≤ D) = true := decide_eq_true h3
          have d4 : decide (D ≤ 16) = true := decide_eq_true h4
          clear hq he h1 h2 h3 h4
          go_enter Tryz.func11, Tryz.ntmps11
          go_wp2_with (go_at_call 36; refine (refRight_any g i a c ls e HE.out _ (HP.out.keep B0.out) hl).mono ?_; rintro e' w2 ⟨rfl, hb⟩; have B2 : Hid (Below _ _ _) := hb; clear hb)
          go_ret
          first | exact ⟨rfl, B0.out.trans (B2.out.mono B0.out.size)⟩ | exact ⟨ret_bool d, B0.out.trans (B2.out.mono B0.out.size)⟩
        · have eq : q = false := by rw [← hq]; exact decide_eq_false (fun e => h4 e.2.2.2.1)
          have d1 : decide (1 ≤ H) = true := decide_eq_true h1
          have d2 : decide (H ≤ 4) = true := decide_eq_true h2
          have d3 : decide (1 ≤ D) = true := decide_eq_true h3
          have d4 : decide (D ≤ 16) = false := decide_eq_false h4
          subst eq
          clear hq h1 h2 h3 h4
          go_enter Tryz.func11, Tryz.ntmps11
          go_wp2
          go_ret
          exact ⟨rfl, B0.out⟩
      · have eq : q = false := by rw [← hq]; exact decide_eq_false (fun e => h3 e.2.2.1)
        have d1 : decide (1 ≤ H) = true := decide_eq_true h1
        have d2 : decide (H ≤ 4) = true := decide_eq_true h2
        have d3 : decide (1 ≤ D) = false := decide_eq_false h3
        subst eq
        clear hq h1 h2 h3
        go_enter Tryz.func11, Tryz.ntmps11
        go_wp2
        go_ret
        exact ⟨rfl, B0.out⟩
    · have eq : q = false := by rw [← hq]; exact decide_eq_false (fun e => h2 e.2.1)
      have d1 : decide (1 ≤ H) = true := decide_eq_true h1
      have d2 : decide (H ≤ 4) = false := decide_eq_false h2
      subst eq
      clear hq h1 h2
      go_enter Tryz.func11, Tryz.ntmps11
      go_wp2
      go_ret
      exact ⟨rfl, B0.out⟩
  · have eq : q = false := by rw [← hq]; exact decide_eq_false (fun e => h1 e.1)
    have d1 : decide (1 ≤ H) = false := decide_eq_false h1
    subst eq
    clear hq h1
    go_enter Tryz.func11, Tryz.ntmps11
    go_wp2
    go_ret
    exact ⟨rfl, B0.out⟩
end Tn
end Go.Proofs.YtnchnlgnnlgjcaaGreat
namespace Go.Proofs.YtnchnlgnnlgjcaaGreat
set_option linter.unusedVariables false
set_option linter.unusedSimpArgs false
open Go.RowKit
namespace Cc
theorem some_any (w : World) :
    Calls Tryz.prog 35 #[] w fun e w' => ∃ a, e = .returned (.agg #[.int .i64 1, .int .i64 1, .int .i64 2, .int .i64 0, .slice (some ⟨a, 0, none⟩) 1 1]) ∧ w.heap.size ≤ a ∧ Tn.Tr.Ps w' (some ⟨a, 0, none⟩) [((2 : Int), (2 : Int))] ∧ Below w.heap.size w w' := by
  go_enter Tryz.func35, Tryz.ntmps35
  go_wp2
  have hb : Below w.heap.size w ((w.alloc (.cells #[.int .i64 1, .int .i64 1, .int .i64 2, .int .i64 0, .slice (some ⟨w.heap.size + 1, 0, none⟩) 1 1] 26)).alloc (.cells #[.int .i64 2, .int .i64 2] 77)) := two_boxes _ _ _
  have r0 : ((w.alloc (.cells #[.int .i64 1, .int .i64 1, .int .i64 2, .int .i64 0, .slice (some ⟨w.heap.size + 1, 0, none⟩) 1 1] 26)).alloc (.cells #[.int .i64 2, .int .i64 2] 77)).rowIs w.heap.size 26 5 (Tn.scell 1 1 2 0 (.slice (some ⟨w.heap.size + 1, 0, none⟩) 1 1)) := (Tn.scell_alloc w 1 1 2 0 _ _).alloc _
  have y0 : ((w.alloc (.cells #[.int .i64 1, .int .i64 1, .int .i64 2, .int .i64 0, .slice (some ⟨w.heap.size + 1, 0, none⟩) 1 1] 26)).alloc (.cells #[.int .i64 2, .int .i64 2] 77)).cell? ⟨w.heap.size, 0, none⟩ = some (.int .i64 1) := r0.cell (show 0 < 5 by decide)
  have y1 : ((w.alloc (.cells #[.int .i64 1, .int .i64 1, .int .i64 2, .int .i64 0, .slice (some ⟨w.heap.size + 1, 0, none⟩) 1 1] 26)).alloc (.cells #[.int .i64 2, .int .i64 2] 77)).cell? ⟨w.heap.size, 1, none⟩ = some (.int .i64 1) := r0.cell (show 1 < 5 by decide)
  have y2 : ((w.alloc (.cells #[.int .i64 1, .int .i64 1, .int .i64 2, .int .i64 0, .slice (some ⟨w.heap.size + 1, 0, none⟩) 1 1] 26)).alloc (.cells #[.int .i64 2, .int .i64 2] 77)).cell? ⟨w.heap.size, 2, none⟩ = some (.int .i64 2) := r0.cell (show 2 < 5 by decide)
  have y3 : ((w.alloc (.cells #[.int .i64 1, .int .i64 1, .int .i64 2, .int .i64 0, .slice (some ⟨w.heap.size + 1, 0, none⟩) 1 1] 26)).alloc (.cells #[.int .i64 2, .int .i64 2] 77)).cell? ⟨w.heap.size, 3, none⟩ = some (.int .i64 0) := r0.cell (show 3 < 5 by decide)
  have y4 : ((w.alloc (.cells #[.int .i64 1, .int .i64 1, .int .i64 2, .int .i64 0, .slice (some ⟨w.heap.size + 1, 0, none⟩) 1 1] 26)).alloc (.cells #[.int .i64 2, .int .i64 2] 77)).cell? ⟨w.heap.size, 4, none⟩ = some (.slice (some ⟨w.heap.size + 1, 0, none⟩) 1 1) := r0.cell (show 4 < 5 by decide)
  have rp := World.rowIs_alloc (w.alloc (.cells #[.int .i64 1, .int .i64 1, .int .i64 2, .int .i64 0, .slice (some ⟨w.heap.size + 1, 0, none⟩) 1 1] 26)) #[.int .i64 2, .int .i64 2] 77 (fun _ => .int .i64 2) (fun i hi => by match i, hi with | 0, _ => rfl | 1, _ => rfl)
  rw [World.size_alloc] at rp
  refine bodyPost_ret (v := .agg #[.int .i64 1, .int .i64 1, .int .i64 2, .int .i64 0, .slice (some ⟨w.heap.size + 1, 0, none⟩) 1 1]) (by simp [results, Tryz.results35, go_sem, y0, y1, y2, y3, y4]) rfl ⟨w.heap.size + 1, rfl, by omega, fun i hi => ?_, hb⟩
  have hi : i < 1 := hi
  obtain rfl : i = 0 := by omega
  exact ⟨w.heap.size + 1, 0, rfl, rp.cell (show 0 < 2 by decide), rp.cell (show 1 < 2 by decide)⟩
end Cc
end Go.Proofs.YtnchnlgnnlgjcaaGreat
