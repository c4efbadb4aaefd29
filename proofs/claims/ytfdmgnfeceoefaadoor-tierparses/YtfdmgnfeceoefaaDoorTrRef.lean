/- Contracts of layer 9: a plan as the document has it; is it right, by the document. -/
import Derived.Test.YtfdmgnfeceoefaaDoorTrRight
import Derived.Deep.AppendLies
namespace Go.Proofs.YtfdmgnfeceoefaaDoor
set_option linter.unusedVariables false
open Go.RowKit
open Tr

namespace Tr
/-- The three cells of a plan. -/
def pcell (g i : Int) (v : Value) (j : Nat) : Value := if j = 0 then .int .i64 g else if j = 1 then .int .i64 i else v
theorem pcell_set (g i : Int) (v v' : Value) (j : Nat) (hj : j < 3) : (if j = 2 then v' else pcell g i v j) = pcell g i v' j := by
  unfold pcell
  match j, hj with
  | 0, _ => rfl
  | 1, _ => rfl
  | 2, _ => rfl
theorem pcell_alloc (w : World) (g i : Int) (v : Value) (t : TypeId) : (w.alloc (.cells #[.int .i64 g, .int .i64 i, v] t)).rowIs w.heap.size t 3 (pcell g i v) :=
  World.rowIs_alloc w #[.int .i64 g, .int .i64 i, v] t _ (fun i hi => by match i, hi with | 0, _ => rfl | 1, _ => rfl | 2, _ => rfl)
/-- The cells of the first n pairs. -/
def pflat (ls : List (Int × Int)) : Nat → List Value
  | 0 => []
  | n + 1 => pflat ls n ++ [.int .i64 (fst ls n), .int .i64 (snd ls n)]
theorem pflat_length (ls : List (Int × Int)) (n : Nat) : (pflat ls n).length = n * 2 := by
  induction n with
  | zero => rfl
  | succ n ih => simp only [pflat]; rw [List.length_append, ih]; simp; omega
theorem pflat_at (ls : List (Int × Int)) (n i : Nat) (hi : i < n) : (pflat ls n)[i * 2]? = some (.int .i64 (fst ls i)) ∧ (pflat ls n)[i * 2 + 1]? = some (.int .i64 (snd ls i)) := by
  induction n with
  | zero => omega
  | succ n ih =>
    simp only [pflat]
    have hl := pflat_length ls n
    by_cases e : i = n
    · subst e
      rw [List.getElem?_append_right (by omega), List.getElem?_append_right (by omega), hl, show i * 2 - i * 2 = 0 by omega, show i * 2 + 1 - i * 2 = 1 by omega]
      exact ⟨rfl, rfl⟩
    · rw [List.getElem?_append_left (by omega), List.getElem?_append_left (by omega)]
      exact ih (by omega)
theorem pflat_congr {a b : List (Int × Int)} (n : Nat) (h : ∀ i, i < n → fst a i = fst b i ∧ snd a i = snd b i) : pflat a n = pflat b n := by
  induction n with
  | zero => rfl
  | succ n ih =>
    simp only [pflat]
    obtain ⟨e1, e2⟩ := h n (by omega)
    rw [ih (fun i hi => h i (by omega)), e1, e2]
theorem ps_of_own {w : World} {base : Nat} {t : TypeId} {a : Option Addr} {n c : Nat} {ls : List (Int × Int)} (h : w.ownsRow base t 2 (.slice a n c) n (pflat ls n)) (hn : n = ls.length) :
    Ps w a ls ∧ n ≤ c ∧ c ≤ maxLen ∧ (a = none → c = 0) ∧ ∀ x, a = some x → base ≤ x.block := by
  rcases h.2 with ⟨e, h0⟩ | ⟨g, cap, cur, e, hb, hg, h1, h2, h3, h4⟩
  · cases e
    exact ⟨(fun i hi => by omega), Nat.le_refl _, Nat.zero_le _, fun _ => rfl, (fun x e => nomatch e)⟩
  · cases e
    refine ⟨fun i hi => ?_, h1, h2, (fun e => nomatch e), fun x e => by cases e; exact hb⟩
    have hc : ∀ j, j < n * 2 → w.cell? ⟨g, j, none⟩ = (pflat ls n)[j]? := fun j hj => by
      rw [cell_of_row w g j cur t (0, 0) hg, ← h4, List.getElem?_take, if_pos hj]
      simp
    obtain ⟨q0, q1⟩ := pflat_at ls n i (by omega)
    refine ⟨g, 0, rfl, ?_, ?_⟩
    · rw [Nat.zero_add, hc _ (by omega)]; exact q0
    · rw [Nat.zero_add, hc _ (by omega)]; exact q1
theorem own2_at {w w' : World} {base : Nat} {t : TypeId} {v : Value} {n : Nat} {xs : List Value} (h : w.ownsRow base t 2 v n xs) (hb : ∀ g, v.ownBlock = some g → w'.heap[g]? = w.heap[g]?) : w'.ownsRow base t 2 v n xs := by
  refine ⟨h.1, ?_⟩
  rcases h.2 with h0 | ⟨g, cap, cur, e, h1, h2, h3⟩
  · exact Or.inl h0
  · refine Or.inr ⟨g, cap, cur, e, h1, ?_, h3⟩
    subst e
    rw [hb g rfl]
    exact h2
theorem own2_slice {w : World} {base : Nat} {t : TypeId} {v : Value} {n : Nat} {xs : List Value} (h : w.ownsRow base t 2 v n xs) : ∃ a c, v = .slice a n c := by
  rcases h.2 with ⟨e, hn⟩ | ⟨g, cap, cur, e, _⟩
  · exact ⟨none, 0, by rw [e, hn]⟩
  · exact ⟨_, _, e⟩
theorem own2_set {w : World} {base : Nat} {t : TypeId} {v : Value} {n : Nat} {xs : List Value} (h : w.ownsRow base t 2 v n xs) {p : Addr} (hp : p.block < base) (y : Value) : (w.setCell p y).ownsRow base t 2 v n xs :=
  own2_at h fun g hg => Go.Deep.blk_setCell_other _ _ _ _ (by have := (h.lt g hg).1; omega)
end Tr
theorem box_over (w : World) (o : Obj) : Below w.heap.size w (w.alloc o) := (Below.refl _ _).alloc (Nat.le_refl _) o
theorem Tryd.infoPair : (Tryd.prog.info? 51).map (fun i => (i.zero, i.size, i.bytes)) = some (some (.agg #[.int .i64 0, .int .i64 0]), 2, 16) := by kernel_rfl

set_option maxRecDepth 100000 in
set_option maxHeartbeats 1600000 in
theorem ref_any (g i : Int) (a : Option Addr) (c : Nat) (ls : List (Int × Int)) (w : World) (hp : Ps w a ls) (hl : ls.length ≤ 8796093022207) :
    Calls Tryd.prog 11 #[.agg #[.int .i64 g, .int .i64 i, .slice a ls.length c]] w fun r w' => ∃ a' c', r = .returned (.agg #[.int .i64 g, .int .i64 i, .slice a' ls.length c']) ∧ Ps w' a' ls ∧ Below w.heap.size w w' := by
  obtain ⟨i0, hi0, hi1, hi2, hi3⟩ := info_parts Tryd.infoPair
  have HP : Hid (Ps w a ls) := hp
  clear hp
  go_enter Tryd.func11, Tryd.ntmps11
  go_wp2
  go_loopw [14] (fun k' wr => ∃ (k : Nat) (v : Value), k ≤ ls.length ∧ k' = .int .i64 k ∧ Hid (wr.rowIs (w.heap.size + 1 + 1) 32 3 (pcell g i v)) ∧ Hid (wr.ownsRow (w.heap.size + 3) 51 2 v k (pflat ls k)) ∧ Hid (Below (w.heap.size + 2) ((w.alloc (.cells #[.int .i64 g, .int .i64 i, .slice a ls.length c] 24)).alloc (.cells #[.int .i64 0, .int .i64 0, .slice none 0 0] 32)) wr)) (fun k' _ => ls.length - (intOf k').toNat)
  case atStart =>
    refine ⟨0, .slice none 0 0, Nat.zero_le _, rfl, ?_, World.ownsRow_nil _ _ _ _, (Below.refl _ _).alloc (by simp) _⟩
    have := pcell_alloc ((w.alloc (.cells #[.int .i64 g, .int .i64 i, .slice a ls.length c] 24)).alloc (.cells #[.int .i64 0, .int .i64 0, .slice none 0 0] 32)) g i (.slice none 0 0) 32
    simpa [Hid] using this
  case round =>
    obtain ⟨k, v, hk, rfl, HR, HO, HB⟩ := hrel
    obtain ⟨va, vc, rfl⟩ := own2_slice HO.out
    have B0 : Hid (Below w.heap.size w wr) := ((box_over w _).trans ((box_over _ _).mono (by simp))).trans (HB.out.mono (by omega))
    have hsz : w.heap.size + 1 + 1 < wr.heap.size := HR.out.lt
    have d2 : wr.cell? ⟨w.heap.size + 1 + 1, 2, none⟩ = some (.slice va k vc) := HR.out.cell (show 2 < 3 by decide)
    have f2 : wr.frozen? ⟨w.heap.size + 1 + 1, 2, none⟩ = false := HR.out.frozen 2
    by_cases hlt : k < ls.length
    · obtain ⟨b, o, rfl, hc⟩ := HP.out.get (by omega)
      have e0 := (hc k hlt).1
      have e1 := (hc k hlt).2
      have hbl : b < w.heap.size := World.block_lt_of_cell? w _ e0
      have e0 : wr.cell? ⟨b, o + k * 2, none⟩ = some (.int .i64 (fst ls k)) := by rw [B0.out.cell (p := ⟨b, o + k * 2, none⟩) hbl]; exact e0
      have e1 : wr.cell? ⟨b, o + k * 2 + 1, none⟩ = some (.int .i64 (snd ls k)) := by rw [B0.out.cell (p := ⟨b, o + k * 2 + 1, none⟩) hbl]; exact e1
      have hbl2 : b < wr.heap.size := by omega
      clear hc
      go_wp2_with (at_builtin; refine wpList_append_lies _ rfl _ _ _ rfl (w.heap.size + 3) 51 i0 _ 2 16 Tryd.underlying30 hi0 hi1 hi2 hi3 rfl (by omega) _ k _ (by rfl) ((HO.out.alloc _).alloc _) ⟨wr.heap.size + 1, 0, none⟩ 1 1 [.int .i64 (fst ls k), .int .i64 (snd ls k)] (by rfl) (by rfl) (World.news_of_block (cs := #[.int .i64 (fst ls k), .int .i64 (snd ls k)]) (t := 51) (fr := (0, 0)) (by first | exact heap_alloc_new _ _ | (have := heap_alloc_new (wr.alloc (.cells #[.int .i64 (fst ls k), .int .i64 (snd ls k)] 49)) (.cells #[.int .i64 (fst ls k), .int .i64 (snd ls k)] 51); simpa using this))) (by simp [Value.oneCell']) (by omega) (by unfold maxLen; omega) (by omega) (by simp; omega) (wr.heap.size + 1 + 1) (by simp) ?_; intro gg cap w1 hown1 hgrow hat hlt1; have R1 : Hid (w1.rowIs (w.heap.size + 1 + 1) 32 3 (pcell g i (.slice va k vc))) := ((HR.out.alloc _).alloc _).of_block (hgrow.block _ (by simp; omega) (fun e => by have := (HO.out.lt _ e.symm).1; omega)); have B1 : Hid (Below (w.heap.size + 2) ((w.alloc (.cells #[.int .i64 g, .int .i64 i, .slice (some ⟨b, o, none⟩) ls.length c] 24)).alloc (.cells #[.int .i64 0, .int .i64 0, .slice none 0 0] 32)) w1) := ((HB.out.alloc (by omega) _).alloc (by simp; omega) _).grown hgrow (by simp; omega) (fun j hj => by have := (HO.out.lt j hj).1; omega); have O1 : Hid (w1.ownsRow (w.heap.size + 3) 51 2 (.slice (some ⟨gg, 0, none⟩) (k + 1) cap) (k + 1) (pflat ls (k + 1))) := hown1; have f2 : w1.frozen? ⟨w.heap.size + 1 + 1, 2, none⟩ = false := R1.out.frozen 2; have d2 : w1.cell? ⟨w.heap.size + 1 + 1, 2, none⟩ = some (.slice va k vc) := R1.out.cell (show 2 < 3 by decide); clear hown1 hgrow hat)
      go_roundw
      case rel => exact ⟨k + 1, _, by omega, by go_num, (R1.out.set 2 _).congr (fun j hj => pcell_set g i _ _ j hj), own2_set O1.out (by simp) _, B1.out.setCell (by simp) _⟩
      case measure => simp [intOf]; omega
    · have e : k = ls.length := by omega
      subst e
      have d0 : wr.cell? ⟨w.heap.size + 1 + 1, 0, none⟩ = some (.int .i64 g) := HR.out.cell (show 0 < 3 by decide)
      have d1 : wr.cell? ⟨w.heap.size + 1 + 1, 1, none⟩ = some (.int .i64 i) := HR.out.cell (show 1 < 3 by decide)
      have r0 : wr.rowIs (w.heap.size + 1) 32 3 (pcell 0 0 (.slice none 0 0)) := by
        have := pcell_alloc (w.alloc (.cells #[.int .i64 g, .int .i64 i, .slice a ls.length c] 24)) 0 0 (.slice none 0 0) 32
        have h2 : ((w.alloc (.cells #[.int .i64 g, .int .i64 i, .slice a ls.length c] 24)).alloc (.cells #[.int .i64 0, .int .i64 0, .slice none 0 0] 32)).rowIs (w.heap.size + 1) 32 3 (pcell 0 0 (.slice none 0 0)) := by simpa using this
        exact h2.of_block (HB.out.block _ (by omega))
      have c0 := r0.cell (show 0 < 3 by decide)
      have c1 := r0.cell (show 1 < 3 by decide)
      have c2 := r0.cell (show 2 < 3 by decide)
      have g0 := r0.frozen 0
      have g1 := r0.frozen 1
      have g2 := r0.frozen 2
      clear r0
      go_wp2
      refine bodyPost_ret (v := .agg #[.int .i64 g, .int .i64 i, .slice va ls.length vc]) (by simp [results, Tryd.results11, go_sem, c0, c1, c2]) rfl ⟨va, vc, rfl, ?_, ?_⟩
      · exact (ps_of_own (own2_set (own2_set (own2_set HO.out (p := ⟨w.heap.size + 1, 0, none⟩) (by simp) _) (p := ⟨w.heap.size + 1, 1, none⟩) (by simp) _) (p := ⟨w.heap.size + 1, 2, none⟩) (by simp) _) rfl).1
      · exact ((B0.out.setCell (by simp) _).setCell (by simp) _).setCell (by simp) _
end Go.Proofs.YtfdmgnfeceoefaaDoor
