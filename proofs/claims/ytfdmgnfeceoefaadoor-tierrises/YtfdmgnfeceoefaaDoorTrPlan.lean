/- Contracts of layer 9: plans in memory; is a plan right. -/
import Derived.Test.YtfdmgnfeceoefaaDoorTrWords
import Derived.Test.YtfdmgnfeceoefaaDoorPkCalls
namespace Go.Proofs.YtfdmgnfeceoefaaDoor
set_option linter.unusedVariables false
open Go.RowKit
namespace Tr
def fst (ls : List (Int × Int)) (i : Nat) : Int := (ls.getD i (0, 0)).1
def snd (ls : List (Int × Int)) (i : Nat) : Int := (ls.getD i (0, 0)).2
theorem fst_of {ls : List (Int × Int)} {i : Nat} (h : i < ls.length) : fst ls i = (ls[i]).1 := by simp [fst, h]
theorem snd_of {ls : List (Int × Int)} {i : Nat} (h : i < ls.length) : snd ls i = (ls[i]).2 := by simp [snd, h]
theorem pairs_ext {a b : List (Int × Int)} (hl : a.length = b.length) (h : ∀ i, i < a.length → fst a i = fst b i ∧ snd a i = snd b i) : a = b := by
  apply List.ext_getElem hl
  intro i h1 h2
  obtain ⟨e1, e2⟩ := h i h1
  rw [fst_of h1, fst_of h2] at e1
  rw [snd_of h1, snd_of h2] at e2
  exact Prod.ext e1 e2
/-- THE SLICE AT a READS AS THE PAIRS ls. -/
def Ps (w : World) (a : Option Addr) (ls : List (Int × Int)) : Prop :=
  ∀ i, i < ls.length → ∃ b o, a = some ⟨b, o, none⟩ ∧ w.cell? ⟨b, o + i * 2, none⟩ = some (.int .i64 (fst ls i)) ∧ w.cell? ⟨b, o + i * 2 + 1, none⟩ = some (.int .i64 (snd ls i))
theorem Ps.nil (w : World) (a : Option Addr) : Ps w a [] := fun i hi => by simp at hi
theorem Ps.get {w : World} {a : Option Addr} {ls : List (Int × Int)} (h : Ps w a ls) (h0 : 0 < ls.length) :
    ∃ b o, a = some ⟨b, o, none⟩ ∧ ∀ j, j < ls.length → w.cell? ⟨b, o + j * 2, none⟩ = some (.int .i64 (fst ls j)) ∧ w.cell? ⟨b, o + j * 2 + 1, none⟩ = some (.int .i64 (snd ls j)) := by
  obtain ⟨b, o, e, _⟩ := h 0 h0
  refine ⟨b, o, e, fun j hj => ?_⟩
  obtain ⟨b', o', e', hc⟩ := h j hj
  rw [e] at e'
  cases e'
  exact hc
theorem Ps.keep {w w' : World} {a : Option Addr} {ls : List (Int × Int)} (h : Ps w a ls) (hb : Below w.heap.size w w') : Ps w' a ls := fun i hi => by
  obtain ⟨b, o, e, h1, h2⟩ := h i hi
  have hlt := World.block_lt_of_cell? w _ h1
  refine ⟨b, o, e, ?_, ?_⟩
  · rw [hb.cell (p := ⟨b, o + i * 2, none⟩) hlt]; exact h1
  · rw [hb.cell (p := ⟨b, o + i * 2 + 1, none⟩) hlt]; exact h2
/-- Bits of 2, 4 or 8. -/
def okB (b : Int) : Bool := b == 2 || b == 4 || b == 8
def okP (ls : List (Int × Int)) (i : Nat) : Bool := okB (fst ls i) && okB (snd ls i)
def allB (ls : List (Int × Int)) : Bool := ls.all fun p => okB p.1 && okB p.2
theorem allB_iff (ls : List (Int × Int)) : allB ls = true ↔ ∀ i, i < ls.length → okP ls i = true := by
  unfold allB okP
  rw [List.all_eq_true]
  constructor
  · intro h i hi
    rw [fst_of hi, snd_of hi]
    exact h _ (List.getElem_mem hi)
  · intro h x hx
    obtain ⟨i, hi, rfl⟩ := List.getElem_of_mem hx
    have := h i hi
    rw [fst_of hi, snd_of hi] at this
    exact this
theorem okB_cases {b : Int} (h : okB b = true) : b = 2 ∨ b = 4 ∨ b = 8 := by unfold okB at h; simp at h; omega
/-- May Group and Window be? -/
def rng (g w : Int) : Bool := decide (1 ≤ g) && decide (g ≤ 16) && decide (0 ≤ w) && decide (w ≤ 64)
/-- What is wrong of a plan, the first. -/
def right (g w : Int) (ls : List (Int × Int)) : Int := if rng g w then (if ls.length = 0 ∨ 4 < ls.length then 12 else if allB ls then 0 else 20) else 11
theorem right_zero {g w : Int} {ls : List (Int × Int)} (h : right g w ls = 0) : 1 ≤ g ∧ g ≤ 16 ∧ 0 ≤ w ∧ w ≤ 64 ∧ 1 ≤ ls.length ∧ ls.length ≤ 4 ∧ allB ls = true := by
  unfold right at h
  split at h
  · rename_i h1
    simp [rng] at h1
    split at h
    · omega
    · split at h
      · exact ⟨h1.1.1.1, h1.1.1.2, h1.1.2, h1.2, by omega, by omega, by assumption⟩
      · omega
  · omega
end Tr
open Tr

theorem bits_any (b : Int) (q : Bool) (hq : okB b = q) (w : World) :
    Calls Tryd.prog 26 #[.int .i64 b] w fun e w' => e = .returned (.bool q) ∧ w' = w := by
  subst hq
  rcases ok_or b with h | ⟨n, rfl, h⟩
  · have : okB b = false := by obtain ⟨h1, h2, h3⟩ := h; unfold okB; simp [h1, h2, h3]
    rw [this]; exact bits_no b h w
  · have : okB (n : Int) = true := by rcases h with rfl | rfl | rfl <;> rfl
    rw [this]; exact bits_yes n h w
theorem refBits_any (b : Int) (q : Bool) (hq : okB b = q) (w : World) :
    Calls Tryd.prog 23 #[.int .i64 b] w fun e w' => e = .returned (.bool q) ∧ w' = w := by
  subst hq
  rcases ok_or b with h | ⟨n, rfl, h⟩
  · have : okB b = false := by obtain ⟨h1, h2, h3⟩ := h; unfold okB; simp [h1, h2, h3]
    rw [this]; exact refBits_no b h w
  · have : okB (n : Int) = true := by rcases h with rfl | rfl | rfl <;> rfl
    rw [this]; exact refBits_yes n h w

theorem within_any (n a b : Int) (q : Bool) (hq : (decide (a ≤ n) && decide (n ≤ b)) = q) (w : World) :
    Calls Tryd.prog 25 #[.int .i64 n, .int .i64 a, .int .i64 b] w fun e w' => e = .returned (.bool q) ∧ w' = w := by
  subst hq
  by_cases h : a ≤ n ∧ n ≤ b
  · have : (decide (a ≤ n) && decide (n ≤ b)) = true := by simp [h.1, h.2]
    rw [this]; exact within_yes n a b h.1 h.2 w
  · have : (decide (a ≤ n) && decide (n ≤ b)) = false := by simp; omega
    rw [this]; exact within_no n a b (by omega) w
theorem ranged_any (g i : Int) (v : Value) (q : Bool) (hq : rng g i = q) (w : World) :
    Calls Tryd.prog 24 #[.agg #[.int .i64 g, .int .i64 i, v]] w fun e w' => e = .returned (.bool q) ∧ Below w.heap.size w w' := by
  have HQ : Hid (rng g i = q) := hq
  clear hq
  obtain ⟨q1, e1⟩ : ∃ q1, (decide (1 ≤ g) && decide (g ≤ 16)) = q1 := ⟨_, rfl⟩
  obtain ⟨q2, e2⟩ : ∃ q2, (decide (0 ≤ i) && decide (i ≤ 64)) = q2 := ⟨_, rfl⟩
  have E1 : Hid ((decide (1 ≤ g) && decide (g ≤ 16)) = q1) := e1
  have E2 : Hid ((decide (0 ≤ i) && decide (i ≤ 64)) = q2) := e2
  have EQ : Hid (q = (q1 && q2)) := by show q = (q1 && q2); rw [← HQ.out, ← e1, ← e2]; unfold rng; simp [Bool.and_assoc]
  clear e1 e2
  cases q1
  · go_enter Tryd.func24, Tryd.ntmps24
    go_wp2_with (go_at_call 25; refine (within_any g 1 16 false E1.out _).mono ?_; rintro e w' ⟨rfl, rfl⟩)
    go_ret
    exact ⟨by rw [EQ.out]; rfl, (Below.refl _ _).alloc (Nat.le_refl _) _⟩
  · go_enter Tryd.func24, Tryd.ntmps24
    go_wp2_with (first
      | (go_at_call_of 25 (g); refine (within_any g 1 16 true E1.out _).mono ?_; rintro e w' ⟨rfl, rfl⟩)
      | (go_at_call 25; refine (within_any i 0 64 q2 E2.out _).mono ?_; rintro e w' ⟨rfl, rfl⟩))
    go_ret
    exact ⟨by rw [EQ.out]; rfl, (Below.refl _ _).alloc (Nat.le_refl _) _⟩
end Go.Proofs.YtfdmgnfeceoefaaDoor
