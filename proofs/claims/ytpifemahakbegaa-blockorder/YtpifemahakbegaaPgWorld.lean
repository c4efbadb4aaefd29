/- Groups in memory: a slice of groups reads as a list of them (layer 8). -/
import Derived.Test.YtpifemahakbegaaPgPage
import Derived.Test.YtpifemahakbegaaPgFrame
import Derived.Test.YtpifemahakbegaaGpRefOf
namespace Go.Proofs.Ytpifemahakbegaa
set_option linter.unusedVariables false
open Go.RowKit

/-- Group i of the slice that begins at ⟨b, o⟩. -/
def GpAt (w : World) (b o i : Nat) (g : Int × Int × List Int) (a : Option Addr) (c : Nat) : Prop :=
  w.cell? ⟨b, o + i * 3, none⟩ = some (.int .i32 (Pg.gz g)) ∧ w.cell? ⟨b, o + i * 3 + 1, none⟩ = some (.int .u32 (Pg.gs g)) ∧ w.cell? ⟨b, o + i * 3 + 2, none⟩ = some (.slice a (Pg.gc g).length c) ∧ Lst .i64 w a (Pg.gc g)
/-- THE SLICE THAT BEGINS AT a READS AS THE GROUPS l. -/
def Gps (w : World) (a : Option Addr) (l : List (Int × Int × List Int)) : Prop :=
  ∀ i, i < l.length → ∃ b o a' c', a = some ⟨b, o, none⟩ ∧ GpAt w b o i (Pg.nth l i) a' c'
theorem GpAt.keep {w w' : World} {b o i : Nat} {g : Int × Int × List Int} {a : Option Addr} {c : Nat} (h : GpAt w b o i g a c) (hb : Below w.heap.size w w') : GpAt w' b o i g a c := by
  obtain ⟨h0, h1, h2, h3⟩ := h
  refine ⟨?_, ?_, ?_, h3.keep hb⟩
  · rw [hb.cell (p := ⟨b, o + i * 3, none⟩) (World.block_lt_of_cell? w _ h0)]; exact h0
  · rw [hb.cell (p := ⟨b, o + i * 3 + 1, none⟩) (World.block_lt_of_cell? w _ h1)]; exact h1
  · rw [hb.cell (p := ⟨b, o + i * 3 + 2, none⟩) (World.block_lt_of_cell? w _ h2)]; exact h2
theorem Gps.keep {w w' : World} {a : Option Addr} {l : List (Int × Int × List Int)} (h : Gps w a l) (hb : Below w.heap.size w w') : Gps w' a l := fun i hi => by
  obtain ⟨b, o, a', c', e, h'⟩ := h i hi
  exact ⟨b, o, a', c', e, h'.keep hb⟩
theorem Gps.nil (w : World) (a : Option Addr) : Gps w a [] := fun i hi => by simp at hi
theorem Gps.get {w : World} {a : Option Addr} {l : List (Int × Int × List Int)} (h : Gps w a l) {i : Nat} (hi : i < l.length) :
    ∃ b o, a = some ⟨b, o, none⟩ ∧ ∀ j, j < l.length → ∃ a' c', GpAt w b o j (Pg.nth l j) a' c' := by
  obtain ⟨b, o, _, _, rfl, _⟩ := h i hi
  refine ⟨b, o, rfl, fun j hj => ?_⟩
  obtain ⟨b', o', a', c', e, hc⟩ := h j hj
  simp at e
  obtain ⟨rfl, rfl⟩ := e
  exact ⟨a', c', hc⟩
theorem GpAt.lt {w : World} {b o i : Nat} {g : Int × Int × List Int} {a : Option Addr} {c : Nat} (h : GpAt w b o i g a c) : b < w.heap.size := World.block_lt_of_cell? w _ h.1
/-- Zero and Scale in their ranges; as many codes as a list may have. -/
def InG (l : List (Int × Int × List Int)) : Prop := ∀ i, i < l.length → -2147483648 ≤ Pg.gz (Pg.nth l i) ∧ Pg.gz (Pg.nth l i) ≤ 2147483647 ∧ 0 ≤ Pg.gs (Pg.nth l i) ∧ Pg.gs (Pg.nth l i) ≤ 4294967295 ∧ (Pg.gc (Pg.nth l i)).length ≤ maxLen

theorem add_flat {b o n : Nat} : (⟨b, o, none⟩ : Addr).add n = ⟨b, o + n, none⟩ := by unfold Addr.add; split <;> simp_all
theorem spot_none {w : World} {x : Addr} {v : Value} (h : w.cell? x = some v) : x.spot = none := World.cell?_spot h
/-- Out of the frame's own word. -/
theorem groups_open {w : World} {a : Option Addr} {len cap : Nat} (h : IsGroups w a len cap) : ∃ l : List (Int × Int × List Int), l.length = len ∧ Gps w a l ∧ InG l ∧ len ≤ maxLen := by
  rcases h with ⟨rfl, rfl, rfl⟩ | ⟨x, rfl, h1, h2, hall⟩
  · exact ⟨[], rfl, Gps.nil _ _, fun i hi => by simp at hi, Nat.zero_le _⟩
  · have each : ∀ i, i < len → ∃ g : Int × Int × List Int, (∃ a' c', w.cell? (x.add (i * 3)) = some (.int .i32 (Pg.gz g)) ∧ w.cell? (x.add (i * 3 + 1)) = some (.int .u32 (Pg.gs g)) ∧ w.cell? (x.add (i * 3 + 2)) = some (.slice a' (Pg.gc g).length c') ∧ Lst .i64 w a' (Pg.gc g)) ∧
        -2147483648 ≤ Pg.gz g ∧ Pg.gz g ≤ 2147483647 ∧ 0 ≤ Pg.gs g ∧ Pg.gs g ≤ 4294967295 ∧ (Pg.gc g).length ≤ maxLen := by
      intro i hi
      obtain ⟨z, sc, b, l, c, zs, g0, g1, g2, w0, w1, hr⟩ := hall i hi
      have b0 := bounds_i32 w0
      have b1 := bounds_u32 w1
      rcases hr with ⟨rfl, rfl, rfl, rfl⟩ | ⟨y, rfl, q1, q2, q3, q4, q5⟩
      · exact ⟨(z, sc, []), ⟨none, 0, g0, g1, g2, Lst.nil _ _ _⟩, b0.1, b0.2, b1.1, b1.2, Nat.zero_le _⟩
      · have el : (zs.take l).length = l := by simp; omega
        refine ⟨(z, sc, zs.take l), ⟨some y, c, g0, g1, ?_, lst_of_cells (by omega) q4⟩, b0.1, b0.2, b1.1, b1.2, ?_⟩
        · show _ = some (Value.slice (some y) (zs.take l).length c)
          rw [el]; exact g2
        · show (zs.take l).length ≤ maxLen
          rw [el]; omega
    obtain ⟨F, hF⟩ := Go.Deep.choose_lt each
    refine ⟨Pg.gen len F, Pg.gen_length _ _, fun i hi => ?_, fun i hi => ?_, by omega⟩
    · rw [Pg.gen_length] at hi
      obtain ⟨⟨a', c', q0, q1, q2, q3⟩, _⟩ := hF i hi
      rw [Pg.nth_gen hi]
      obtain ⟨⟨_, _, p0, _⟩, _⟩ := hF 0 (by omega)
      rw [Nat.zero_mul, show x.add 0 = x by unfold Addr.add; simp] at p0
      have hs := spot_none p0
      obtain ⟨b, o, sp⟩ := x
      have hs' : sp = none := hs
      subst hs'
      rw [add_flat] at q0 q1 q2
      exact ⟨b, o, a', c', rfl, q0, by rw [Nat.add_assoc]; exact q1, by rw [Nat.add_assoc]; exact q2, q3⟩
    · rw [Pg.gen_length] at hi
      rw [Pg.nth_gen hi]
      exact (hF i hi).2

/-- The cells of the first n groups, their codes at A i with room C i. -/
def gflat (l : List (Int × Int × List Int)) (A : Nat → Option Addr) (C : Nat → Nat) : Nat → List Value
  | 0 => []
  | n + 1 => gflat l A C n ++ [.int .i32 (Pg.gz (Pg.nth l n)), .int .u32 (Pg.gs (Pg.nth l n)), .slice (A n) (Pg.gc (Pg.nth l n)).length (C n)]
theorem gflat_length (l : List (Int × Int × List Int)) (A : Nat → Option Addr) (C : Nat → Nat) (n : Nat) : (gflat l A C n).length = n * 3 := by
  induction n with
  | zero => rfl
  | succ n ih => simp only [gflat]; rw [List.length_append, ih]; simp; omega
theorem gflat_at (l : List (Int × Int × List Int)) (A : Nat → Option Addr) (C : Nat → Nat) (n i : Nat) (hi : i < n) :
    (gflat l A C n)[i * 3]? = some (.int .i32 (Pg.gz (Pg.nth l i))) ∧ (gflat l A C n)[i * 3 + 1]? = some (.int .u32 (Pg.gs (Pg.nth l i))) ∧ (gflat l A C n)[i * 3 + 2]? = some (.slice (A i) (Pg.gc (Pg.nth l i)).length (C i)) := by
  induction n with
  | zero => omega
  | succ n ih =>
    simp only [gflat]
    have hl := gflat_length l A C n
    by_cases e : i = n
    · subst e
      rw [List.getElem?_append_right (by omega), List.getElem?_append_right (by omega), List.getElem?_append_right (by omega), hl]
      rw [show i * 3 - i * 3 = 0 by omega, show i * 3 + 1 - i * 3 = 1 by omega, show i * 3 + 2 - i * 3 = 2 by omega]
      exact ⟨rfl, rfl, rfl⟩
    · rw [List.getElem?_append_left (by omega), List.getElem?_append_left (by omega), List.getElem?_append_left (by omega)]
      exact ih (by omega)
theorem gflat_congr {l m : List (Int × Int × List Int)} {A B : Nat → Option Addr} {C D : Nat → Nat} (n : Nat) (h : ∀ i, i < n → Pg.nth l i = Pg.nth m i ∧ A i = B i ∧ C i = D i) : gflat l A C n = gflat m B D n := by
  induction n with
  | zero => rfl
  | succ n ih =>
    simp only [gflat]
    obtain ⟨e1, e2, e3⟩ := h n (by omega)
    rw [ih (fun i hi => h i (by omega)), e1, e2, e3]
theorem lst_keepAll {w w' : World} {l : List (Int × Int × List Int)} {A : Nat → Option Addr} (h : ∀ i, i < l.length → Lst .i64 w (A i) (Pg.gc (Pg.nth l i))) (hb : Below w.heap.size w w') : ∀ i, i < l.length → Lst .i64 w' (A i) (Pg.gc (Pg.nth l i)) := fun i hi => (h i hi).keep hb
/-- An own row of groups reads as them. -/
theorem gps_of_own {w : World} {base : Nat} {t : TypeId} {v : Value} {n : Nat} {l : List (Int × Int × List Int)} {A : Nat → Option Addr} {C : Nat → Nat} (h : w.ownsRow base t 3 v n (gflat l A C n)) (hn : n = l.length) (hl : ∀ i, i < l.length → Lst .i64 w (A i) (Pg.gc (Pg.nth l i))) :
    ∃ a c, v = .slice a n c ∧ Gps w a l := by
  rcases h.2 with ⟨rfl, h0⟩ | ⟨g, cap, cur, rfl, hb, hg, h1, h2, h3, h4⟩
  · refine ⟨none, 0, by rw [h0], fun i hi => by omega⟩
  · refine ⟨_, cap, rfl, fun i hi => ?_⟩
    have hc : ∀ j, j < n * 3 → w.cell? ⟨g, j, none⟩ = (gflat l A C n)[j]? := fun j hj => by
      rw [cell_of_row w g j cur t (0, 0) hg, ← h4, List.getElem?_take, if_pos hj]
      simp
    obtain ⟨q0, q1, q2⟩ := gflat_at l A C n i (by omega)
    refine ⟨g, 0, A i, C i, rfl, ?_, ?_, ?_, hl i hi⟩
    · rw [Nat.zero_add, hc _ (by omega)]; exact q0
    · rw [Nat.zero_add, hc _ (by omega)]; exact q1
    · rw [Nat.zero_add, hc _ (by omega)]; exact q2
end Go.Proofs.Ytpifemahakbegaa
