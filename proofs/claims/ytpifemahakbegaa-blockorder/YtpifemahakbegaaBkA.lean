/- Layer 11's plain arithmetic: rows of numbers, all of them behind one another, how often a number is among them. -/
import Derived.Test.YtpifemahakbegaaPoA
import Derived.Test.YtpifemahakbegaaPaA
import Derived.Laws.OwnMore
import Derived.Deep.RegionHeld3
import Derived.Deep.RegionLaw
import Derived.Deep.AppendLies
import Derived.Deep.RegionLawGrows
import Derived.Deep.DeepCutAuto
import Derived.Lib.AppendZerosOnto
import Derived.Lib.SliceRun
import Derived.Lib.Walk
import Derived.Deep.Upon
import Derived.Laws.IdiomCopy
namespace Go.Proofs.Ytpifemahakbegaa.Bk
set_option linter.unusedVariables false

/-- The rows with another one in row j. -/
def up (L : Nat → List Int) (j : Nat) (l : List Int) : Nat → List Int := fun i => if i = j then l else L i
theorem up_at (L : Nat → List Int) (j : Nat) (l : List Int) : up L j l j = l := if_pos rfl
theorem up_off (L : Nat → List Int) {i j : Nat} (l : List Int) (h : ¬ i = j) : up L j l i = L i := if_neg h
/-- The first k rows behind one another. -/
def flat (L : Nat → List Int) : Nat → List Int
  | 0 => []
  | k + 1 => flat L k ++ L k
theorem flat_congr {L L' : Nat → List Int} {k : Nat} (h : ∀ i, i < k → L i = L' i) : flat L k = flat L' k := by
  induction k with
  | zero => rfl
  | succ k ih => show flat L k ++ L k = flat L' k ++ L' k; rw [ih fun i hi => h i (by omega), h k (by omega)]
theorem flat_nil (k : Nat) : flat (fun _ => []) k = [] := by
  induction k with
  | zero => rfl
  | succ k ih => show flat _ k ++ [] = []; rw [ih]; rfl
/-- How many numbers the first k rows have. -/
def len (L : Nat → List Int) (k : Nat) : Nat := (flat L k).length
theorem len_succ (L : Nat → List Int) (k : Nat) : len L (k + 1) = len L k + (L k).length := by show (flat L k ++ L k).length = _; rw [List.length_append]; rfl
theorem len_mono (L : Nat → List Int) {j k : Nat} (h : j ≤ k) : len L j ≤ len L k := by
  induction k with
  | zero =>
    have : j = 0 := by omega
    rw [this]
    exact Nat.le_refl _
  | succ k ih =>
    rw [len_succ]
    by_cases e : j = k + 1
    · subst e; rw [len_succ]; exact Nat.le_refl _
    · have := ih (by omega); omega
theorem row_le (L : Nat → List Int) {j k : Nat} (h : j < k) : (L j).length ≤ len L k := by
  have h1 := len_mono L (show j + 1 ≤ k by omega)
  rw [len_succ] at h1
  omega
/-- How often a number is among these. -/
def occ (x : Int) : List Int → Nat
  | [] => 0
  | y :: l => (if y = x then 1 else 0) + occ x l
theorem occ_append (x : Int) (l r : List Int) : occ x (l ++ r) = occ x l + occ x r := by
  induction l with
  | nil => simp [occ]
  | cons y l ih => show (if y = x then 1 else 0) + occ x (l ++ r) = (if y = x then 1 else 0) + occ x l + occ x r; rw [ih]; omega
theorem occ_le (x : Int) (l : List Int) : occ x l ≤ l.length := by
  induction l with
  | nil => exact Nat.le_refl _
  | cons y l ih => show (if y = x then 1 else 0) + occ x l ≤ l.length + 1; split <;> omega
theorem occ_one (x y : Int) : occ x [y] = if y = x then 1 else 0 := by show (if y = x then 1 else 0) + 0 = _; rfl
theorem occ_none {x : Int} {l : List Int} (h : ¬ x ∈ l) : occ x l = 0 := by
  induction l with
  | nil => rfl
  | cons y l ih =>
    show (if y = x then 1 else 0) + occ x l = 0
    rw [ih (fun m => h (List.mem_cons_of_mem _ m)), if_neg (fun e => h (by rw [e]; exact List.mem_cons_self ..))]
theorem occ_pos {x : Int} {l : List Int} (h : x ∈ l) : 0 < occ x l := by
  induction l with
  | nil => cases h
  | cons y l ih =>
    show 0 < (if y = x then 1 else 0) + occ x l
    by_cases e : y = x
    · rw [if_pos e]; omega
    · rcases List.mem_cons.1 h with q | q
      · exact absurd q.symm e
      · have := ih q; omega
/-- Number x in row j once more: among all rows x stands once more. -/
theorem occ_up (L : Nat → List Int) {j k : Nat} (h : j < k) (y x : Int) : occ x (flat (up L j (L j ++ [y])) k) = occ x (flat L k) + (if y = x then 1 else 0) := by
  induction k with
  | zero => omega
  | succ k ih =>
    show occ x (flat (up L j (L j ++ [y])) k ++ up L j (L j ++ [y]) k) = occ x (flat L k ++ L k) + _
    rw [occ_append, occ_append]
    by_cases e : j = k
    · subst e
      rw [up_at, occ_append, occ_one, flat_congr (L' := L) fun i hi => up_off L _ (by omega)]
      omega
    · rw [ih (by omega), up_off L _ (fun q => e q.symm)]
      omega
theorem len_up (L : Nat → List Int) {j k : Nat} (h : j < k) (y : Int) : len (up L j (L j ++ [y])) k = len L k + 1 := by
  induction k with
  | zero => omega
  | succ k ih =>
    rw [len_succ, len_succ]
    by_cases e : j = k
    · subst e
      rw [up_at]
      have : len (up L j (L j ++ [y])) j = len L j := by unfold len; rw [flat_congr (L' := L) fun i hi => up_off L _ (by omega)]
      rw [this, List.length_append]
      simp
      omega
    · rw [ih (by omega), up_off L _ (fun q => e q.symm)]
      omega
theorem mem_up {L : Nat → List Int} {j k : Nat} {y x : Int} (h : x ∈ flat (up L j (L j ++ [y])) k) (hj : j < k) : x = y ∨ x ∈ flat L k := by
  by_cases e : y = x
  · exact .inl e.symm
  · right
    have h1 := occ_pos h
    rw [occ_up L hj, if_neg e] at h1
    apply Classical.byContradiction
    intro q
    rw [occ_none q] at h1
    omega
theorem mem_flat {L : Nat → List Int} {k : Nat} {x : Int} (h : x ∈ flat L k) : ∃ j, j < k ∧ x ∈ L j := by
  induction k with
  | zero => cases h
  | succ k ih =>
    rcases List.mem_append.1 h with q | q
    · obtain ⟨j, h1, h2⟩ := ih q; exact ⟨j, by omega, h2⟩
    · exact ⟨k, by omega, q⟩
theorem flat_mem {L : Nat → List Int} {j k : Nat} {x : Int} (hj : j < k) (h : x ∈ L j) : x ∈ flat L k := by
  induction k with
  | zero => omega
  | succ k ih =>
    by_cases e : j = k
    · subst e; exact List.mem_append.2 (.inr h)
    · exact List.mem_append.2 (.inl (ih (by omega)))
/-- The row that begins at a place of all rows behind one another. -/
theorem nth_flat (L : Nat → List Int) {j k i : Nat} (hj : j < k) (hi : i < (L j).length) : Ls.nth (flat L k) (len L j + i) = Ls.nth (L j) i := by
  induction k with
  | zero => omega
  | succ k ih =>
    show Ls.nth (flat L k ++ L k) _ = _
    by_cases e : j = k
    · subst e; unfold len Ls.nth; simp [hi]
    · have h1 := len_mono L (show j + 1 ≤ k by omega)
      rw [len_succ] at h1
      have h2 := ih (by omega)
      rw [← h2]
      have h3 : len L j + i < (flat L k).length := by show _ < len L k; omega
      unfold Ls.nth
      simp only [List.getD_eq_getElem?_getD, List.getElem?_append_left h3]
/-- These counts, each of these numbers d more. -/
def bump (R : List Int) (d : Int) : List Int → List Int
  | [] => R
  | x :: l => bump (R.set x.toNat (Ls.nth R x.toNat + d)) d l
theorem bump_append (d : Int) (l r : List Int) : ∀ R, bump R d (l ++ r) = bump (bump R d l) d r := by
  induction l with
  | nil => exact fun _ => rfl
  | cons x l ih => exact fun R => ih _
theorem bump_length (d : Int) (l : List Int) : ∀ R, (bump R d l).length = R.length := by
  induction l with
  | nil => exact fun _ => rfl
  | cons x l ih => intro R; show (bump _ d l).length = _; rw [ih]; simp
theorem nth_bump (d : Int) (l : List Int) : ∀ R : List Int, (∀ x, x ∈ l → 0 ≤ x ∧ x < R.length) → ∀ k : Nat, k < R.length → Ls.nth (bump R d l) k = Ls.nth R k + d * occ k l := by
  induction l with
  | nil => intro R _ k _; show Ls.nth R k = Ls.nth R k + d * ((0 : Nat) : Int); simp
  | cons x l ih =>
    intro R h k hk
    have hx := h x (List.mem_cons_self ..)
    show Ls.nth (bump (R.set x.toNat (Ls.nth R x.toNat + d)) d l) k = Ls.nth R k + d * (((if x = (k : Int) then 1 else 0) + occ k l : Nat) : Int)
    rw [ih _ (fun y hy => by have := h y (List.mem_cons_of_mem _ hy); rw [List.length_set]; exact this) k (by rw [List.length_set]; exact hk), Po.nth_set (by omega)]
    by_cases e : k = x.toNat
    · rw [if_pos e, if_pos (by omega), ← e, Int.natCast_add, Int.mul_add]
      simp
      omega
    · rw [if_neg e, if_neg (by omega)]
      simp
/-- All counts of the first k tables. -/
def tot (L : Nat → Nat → List Int) (m : Nat) (x : Int) : Nat → Nat
  | 0 => 0
  | k + 1 => tot L m x k + occ x (flat (L k) m)
theorem tot_congr {L L' : Nat → Nat → List Int} {m k : Nat} {x : Int} (h : ∀ i, i < k → L i = L' i) : tot L m x k = tot L' m x k := by
  induction k with
  | zero => rfl
  | succ k ih => show tot L m x k + _ = tot L' m x k + _; rw [ih fun i hi => h i (by omega), h k (by omega)]
/-- The tables with another one in place a. -/
def put (L : Nat → Nat → List Int) (a : Nat) (l : Nat → List Int) : Nat → Nat → List Int := fun i => if i = a then l else L i
theorem put_at (L : Nat → Nat → List Int) (a : Nat) (l : Nat → List Int) : put L a l a = l := if_pos rfl
theorem put_off (L : Nat → Nat → List Int) {i a : Nat} (l : Nat → List Int) (h : ¬ i = a) : put L a l i = L i := if_neg h
theorem tot_put (L : Nat → Nat → List Int) {a k : Nat} (h : a < k) (l : Nat → List Int) (m : Nat) (x : Int) : tot (put L a l) m x k + occ x (flat (L a) m) = tot L m x k + occ x (flat l m) := by
  induction k with
  | zero => omega
  | succ k ih =>
    show tot (put L a l) m x k + occ x (flat (put L a l k) m) + _ = tot L m x k + occ x (flat (L k) m) + _
    by_cases e : a = k
    · subst e
      rw [put_at, tot_congr (L' := L) fun i hi => put_off L l (by omega)]
      omega
    · rw [put_off L l (fun q => e q.symm)]
      have := ih (by omega)
      omega
theorem occ_tot (L : Nat → Nat → List Int) {a k : Nat} (h : a < k) (m : Nat) (x : Int) : occ x (flat (L a) m) ≤ tot L m x k := by
  induction k with
  | zero => omega
  | succ k ih =>
    show _ ≤ tot L m x k + occ x (flat (L k) m)
    by_cases e : a = k
    · subst e; omega
    · have := ih (by omega); omega
theorem tot_le (L : Nat → Nat → List Int) {k m j : Nat} (x : Int) (h : ∀ i, i < k → len (L i) m ≤ j) : tot L m x k ≤ k * j := by
  induction k with
  | zero => exact Nat.zero_le _
  | succ k ih =>
    show tot L m x k + occ x (flat (L k) m) ≤ (k + 1) * j
    have h1 := ih fun i hi => h i (by omega)
    have h2 := h k (by omega)
    have h3 := occ_le x (flat (L k) m)
    unfold len at h2
    rw [Nat.succ_mul]
    omega
end Go.Proofs.Ytpifemahakbegaa.Bk
/- Tables of slots in memory (layer 11): rows of numbers, the blocks that they lie in. -/
namespace Go.Proofs.Ytpifemahakbegaa
set_option linter.unusedVariables false
open Go.RowKit

/-- BLOCK j BEARS TYPE t. -/
def Ty (w : World) (j : Nat) (t : TypeId) : Prop := ∃ cs fz, w.heap[j]? = some (.cells cs t fz)
theorem Ty.ne {w : World} {i j : Nat} {s t : TypeId} (h : Ty w i s) (k : Ty w j t) (e : ¬ s = t) : ¬ i = j := fun q => by
  subst q
  obtain ⟨a, f, h⟩ := h
  obtain ⟨b, g, k⟩ := k
  rw [h] at k
  cases k
  exact e rfl
theorem ty_row {w : World} {b : Nat} {t : TypeId} {n : Nat} {f : Nat → Value} (h : w.rowIs b t n f) : Ty w b t := by
  obtain ⟨c, e, _⟩ := h
  exact ⟨c, _, e⟩
theorem ty_own {w : World} {base s : Nat} {t : TypeId} {v : Value} {n : Nat} {xs : List Value} (h : w.ownsRow base t s v n xs) {q : Nat} (hq : v.ownBlock = some q) : Ty w q t := by
  rcases h.2 with ⟨rfl, _⟩ | ⟨g, cap, cur, rfl, _, hg, _⟩
  · cases hq
  · cases hq; exact ⟨cur, _, hg⟩
theorem Ty.lt {w : World} {j : Nat} {t : TypeId} (h : Ty w j t) : j < w.heap.size := by
  obtain ⟨c, f, e⟩ := h
  exact (Array.getElem?_eq_some_iff.1 e).1
theorem Ty.of_block {w w' : World} {j : Nat} {t : TypeId} (h : Ty w j t) (e : w'.heap[j]? = w.heap[j]?) : Ty w' j t := by
  obtain ⟨c, f, h⟩ := h
  exact ⟨c, f, e.trans h⟩
/-- A pool hangs on blocks of three types alone. -/
theorem PoolAt.stand {w w' : World} {g b n : Nat} {R M : List Int} (h : PoolAt w g b n R M) (hk : ∀ j, Ty w j 74 ∨ Ty w j 86 ∨ Ty w j 91 → w'.heap[j]? = w.heap[j]?) : PoolAt w' g b n R M := by
  obtain ⟨P, h1, h2, h3, h4, h5, h6, h7, h8⟩ := h
  refine ⟨P, h1.of_block (hk _ (.inl (ty_row h1))), h2.of_block (hk _ (.inr (.inl (ty_row h2)))), h3, h4, h5, h6, h7, fun i hi hr => ?_⟩
  obtain ⟨q, e, n1, n2, hq⟩ := h8 i hi hr
  refine ⟨q, e, n1, n2, hq.of_block (hk _ (.inr (.inr ?_)))⟩
  obtain ⟨f, _, _, _, _, _, _, hr', _⟩ := hq
  exact ty_row hr'
theorem PoolAt.tys {w : World} {g b n : Nat} {R M : List Int} (h : PoolAt w g b n R M) : Ty w g 74 ∧ Ty w b 86 := by
  obtain ⟨P, h1, h2, _⟩ := h
  exact ⟨ty_row h1, ty_row h2⟩
/-- A store into a block of another type. -/
theorem PoolAt.far {w : World} {g b n : Nat} {R M : List Int} (h : PoolAt w g b n R M) {H : Nat} {t : TypeId} (ht : Ty w H t) (e1 : ¬ t = 74) (e2 : ¬ t = 86) (e3 : ¬ t = 91) (o : Nat) (y : Value) : PoolAt (w.setCell ⟨H, o, none⟩ y) g b n R M :=
  h.stand fun j hj => by
    apply Below.heap_setCell
    show j ≠ H
    rcases hj with q | q | q
    · exact fun e => Ty.ne q ht (fun e => e1 e.symm) e
    · exact fun e => Ty.ne q ht (fun e => e2 e.symm) e
    · exact fun e => Ty.ne q ht (fun e => e3 e.symm) e

/-- A ROW OF NUMBERS of the call's own. -/
def RowAt (w : World) (v : Value) (l : List Int) : Prop := w.ownsRow 0 3 1 v l.length (l.map (Value.int .i64))
theorem RowAt.of_block {w w' : World} {v : Value} {l : List Int} (h : RowAt w v l) (hb : ∀ q, v.ownBlock = some q → w'.heap[q]? = w.heap[q]?) : RowAt w' v l := own_at h hb
theorem RowAt.keep {w w' : World} {v : Value} {l : List Int} (h : RowAt w v l) (hb : Below w.heap.size w w') : RowAt w' v l := own_below h hb
theorem row_none (w : World) : RowAt w (.slice none 0 0) [] := World.ownsRow_nil _ _ _ _
theorem RowAt.slice {w : World} {v : Value} {l : List Int} (h : RowAt w v l) : ∃ A C, v = .slice A l.length C ∧ Lst .i64 w A l ∧ (A = none → C = 0) ∧ ∀ x, A = some x → v.ownBlock = some x.block := by
  obtain ⟨A, C, e, hl, _⟩ := lst_of_own h
  refine ⟨A, C, e, hl, own_none h e, fun x ex => ?_⟩
  subst ex
  rw [e]; rfl

/-- ROWS: the slice v has m rows, the j-th one reads as L j; all blocks are of kind Q. -/
def Rws (w : World) (v : Value) (m : Nat) (L : Nat → List Int) (Q : Nat → Prop) : Prop :=
  (v = .slice none 0 0 ∧ m = 0) ∨
  ∃ d c F, v = .slice (some ⟨d, 0, none⟩) m c ∧ m ≤ c ∧ w.rowIs d 31 c F ∧ Q d ∧ (∀ j, j < m → RowAt w (F j) (L j)) ∧ (∀ j, j < m → ∀ q, (F j).ownBlock = some q → Q q) ∧
    ∀ i j q, i < m → j < m → (F i).ownBlock = some q → (F j).ownBlock = some q → i = j
theorem Rws.stand {w w' : World} {v : Value} {m : Nat} {L : Nat → List Int} {Q : Nat → Prop} (h : Rws w v m L Q) (hk : ∀ q, Q q → Ty w q 31 ∨ Ty w q 3 → w'.heap[q]? = w.heap[q]?) : Rws w' v m L Q := by
  rcases h with h | ⟨d, c, F, e, hc, hr, hd, h1, h2, h3⟩
  · exact .inl h
  · exact .inr ⟨d, c, F, e, hc, hr.of_block (hk d hd (.inl (ty_row hr))), hd, fun j hj => (h1 j hj).of_block fun q hq => hk q (h2 j hj q hq) (.inr (ty_own (h1 j hj) hq)), h2, h3⟩
theorem Rws.keep {w w' : World} {v : Value} {m : Nat} {L : Nat → List Int} {Q : Nat → Prop} (h : Rws w v m L Q) (hb : Below w.heap.size w w') : Rws w' v m L Q := h.stand fun q _ ht => hb.block q (by rcases ht with t | t <;> exact t.lt)
theorem Rws.mono {w : World} {v : Value} {m : Nat} {L : Nat → List Int} {Q Q' : Nat → Prop} (h : Rws w v m L Q) (hq : ∀ q, q < w.heap.size → Q q → Q' q) : Rws w v m L Q' := by
  rcases h with h | ⟨d, c, F, e, hc, hr, hd, h1, h2, h3⟩
  · exact .inl h
  · exact .inr ⟨d, c, F, e, hc, hr, hq d hr.lt hd, h1, fun j hj q ho => hq q (ty_own (h1 j hj) ho).lt (h2 j hj q ho), h3⟩
theorem Rws.congr {w : World} {v : Value} {m : Nat} {L L' : Nat → List Int} {Q : Nat → Prop} (h : Rws w v m L Q) (hl : ∀ j, j < m → L j = L' j) : Rws w v m L' Q := by
  rcases h with h | ⟨d, c, F, e, hc, hr, hd, h1, h2, h3⟩
  · exact .inl h
  · exact .inr ⟨d, c, F, e, hc, hr, hd, fun j hj => by rw [← hl j hj]; exact h1 j hj, h2, h3⟩
theorem Rws.slice {w : World} {v : Value} {m : Nat} {L : Nat → List Int} {Q : Nat → Prop} (h : Rws w v m L Q) : ∃ a c, v = .slice a m c := by
  rcases h with ⟨h, hm⟩ | ⟨d, c, F, e, _⟩
  · exact ⟨none, 0, by rw [hm]; exact h⟩
  · exact ⟨_, c, e⟩
/-- A row's own cell. -/
theorem Rws.cell {w : World} {v : Value} {m : Nat} {L : Nat → List Int} {Q : Nat → Prop} (h : Rws w v m L Q) {j : Nat} (hj : j < m) :
    ∃ d c A C, v = .slice (some ⟨d, 0, none⟩) m c ∧ w.cell? ⟨d, j, none⟩ = some (.slice A (L j).length C) ∧ RowAt w (.slice A (L j).length C) (L j) ∧ Lst .i64 w A (L j) ∧ (A = none → C = 0) := by
  rcases h with ⟨_, hm⟩ | ⟨d, c, F, e, hc, hr, hd, h1, _⟩
  · omega
  · obtain ⟨A, C, e1, hl, hn, _⟩ := (h1 j hj).slice
    have hcell := hr.cell (show j < c by omega)
    have hj1 := h1 j hj
    rw [e1] at hcell hj1
    exact ⟨d, c, A, C, e, hcell, hj1, hl, hn⟩
/-- Rows that were made: all are empty. -/
theorem rws_made {w : World} {d n : Nat} {Q : Nat → Prop} (h : w.rowIs d 31 n (fun _ => .slice none 0 0)) (hd : Q d) : Rws w (.slice (some ⟨d, 0, none⟩) n n) n (fun _ => []) Q :=
  .inr ⟨d, n, _, rfl, Nat.le_refl _, h, hd, fun j _ => row_none w, fun j _ q e => absurd (show (none : Option Nat) = some q from e) (by simp), fun i j q _ _ e => absurd (show (none : Option Nat) = some q from e) (by simp)⟩
/-- A ROW IS TURNED: the row's old value v0, its new one v1; then the new one is laid into the rows. -/
theorem Rws.more {w w' : World} {d m c j : Nat} {L : Nat → List Int} {Q : Nat → Prop} (h : Rws w (.slice (some ⟨d, 0, none⟩) m c) m L Q) (hj : j < m) {v0 v1 : Value} (hv : w.cell? ⟨d, j, none⟩ = some v0)
    {l : List Int} (hnew : RowAt w' v1 l) (hat : ∀ g, v1.ownBlock = some g → v0.ownBlock = some g ∨ w.heap.size ≤ g)
    (hk : ∀ q, q < w.heap.size → ¬ v0.ownBlock = some q → w'.heap[q]? = w.heap[q]?) : Rws (w'.setCell ⟨d, j, none⟩ v1) (.slice (some ⟨d, 0, none⟩) m c) m (Bk.up L j l) (fun q => Q q ∨ w.heap.size ≤ q) := by
  rcases h with ⟨h, hm⟩ | ⟨d', c', F, e, hc, hr, hd, h1, h2, h3⟩
  · cases h
  · cases e
    have hv0 : v0 = F j := by have := hr.cell (show j < c by omega); rw [this] at hv; cases hv; rfl
    subst hv0
    have td := ty_row hr
    have nd : ∀ q, (F j).ownBlock = some q → ¬ q = d := fun q hq => (ty_own (h1 j hj) hq).ne td (by decide)
    have hr' : w'.rowIs d 31 c F := hr.of_block (hk d hr.lt (fun e => nd d e rfl))
    have gd : ∀ g, v1.ownBlock = some g → ¬ g = d := fun g hg => by
      rcases hat g hg with q | q
      · exact nd g q
      · have := hr.lt; omega
    refine .inr ⟨d, c, fun i => if i = j then v1 else F i, rfl, hc, hr'.set j v1, .inl hd, fun i hi => ?_, fun i hi q hq => ?_, fun i i2 q hi hi2 ei ei2 => ?_⟩
    · by_cases e : i = j
      · show RowAt _ (if i = j then v1 else F i) (Bk.up L j l i)
        rw [if_pos e, e, Bk.up_at]
        exact hnew.of_block fun q hq => Below.heap_setCell _ _ _ _ (show q ≠ d from gd q hq)
      · show RowAt _ (if i = j then v1 else F i) (Bk.up L j l i)
        rw [if_neg e, Bk.up_off L l e]
        refine (h1 i hi).of_block fun q hq => ?_
        rw [Below.heap_setCell _ _ _ _ (show q ≠ d from (ty_own (h1 i hi) hq).ne td (by decide))]
        exact hk q (ty_own (h1 i hi) hq).lt fun e2 => e (h3 i j q hi hj hq e2)
    · have hq : (if i = j then v1 else F i).ownBlock = some q := hq
      show Q q ∨ _
      by_cases e : i = j
      · rw [if_pos e] at hq
        rcases hat q hq with q1 | q1
        · exact .inl (h2 j hj _ q1)
        · exact .inr q1
      · rw [if_neg e] at hq
        exact .inl (h2 i hi q hq)
    · have far : ∀ t, ¬ t = j → t < m → (F t).ownBlock = some q → v1.ownBlock = some q → False := fun t nt ht et ev => by
        rcases hat q ev with q1 | q1
        · exact nt (h3 t j q ht hj et q1)
        · have := (ty_own (h1 t ht) et).lt; omega
      have ei : (if i = j then v1 else F i).ownBlock = some q := ei
      have ei2 : (if i2 = j then v1 else F i2).ownBlock = some q := ei2
      by_cases e : i = j
      · by_cases e2 : i2 = j
        · rw [e, e2]
        · rw [if_pos e] at ei
          rw [if_neg e2] at ei2
          exact (far i2 e2 hi2 ei2 ei).elim
      · rw [if_neg e] at ei
        by_cases e2 : i2 = j
        · rw [if_pos e2] at ei2
          exact (far i e hi ei ei2).elim
        · rw [if_neg e2] at ei2
          exact h3 i i2 q hi hi2 ei ei2

/-- The two cells of a table. -/
def tbc (g r m : Nat) (i : Nat) : Value := if i = 0 then .pointer (some ⟨g, 0, none⟩) else .slice (some ⟨r, 0, none⟩) m m
/-- A TABLE LIES AT BLOCK T, over the pool at g, with m rows. -/
def Tab (w : World) (g T m : Nat) (L : Nat → List Int) (Q : Nat → Prop) : Prop :=
  ∃ r, w.rowIs T 64 2 (tbc g r m) ∧ Rws w (.slice (some ⟨r, 0, none⟩) m m) m L Q
theorem Tab.stand {w w' : World} {g T m : Nat} {L : Nat → List Int} {Q : Nat → Prop} (h : Tab w g T m L Q) (ht : w'.heap[T]? = w.heap[T]?) (hk : ∀ q, Q q → Ty w q 31 ∨ Ty w q 3 → w'.heap[q]? = w.heap[q]?) : Tab w' g T m L Q := by
  obtain ⟨r, h1, h2⟩ := h
  exact ⟨r, h1.of_block ht, h2.stand hk⟩
theorem Tab.lt {w : World} {g T m : Nat} {L : Nat → List Int} {Q : Nat → Prop} (h : Tab w g T m L Q) : T < w.heap.size := by
  obtain ⟨r, h1, _⟩ := h
  exact h1.lt
theorem Tab.ty {w : World} {g T m : Nat} {L : Nat → List Int} {Q : Nat → Prop} (h : Tab w g T m L Q) : Ty w T 64 := by
  obtain ⟨r, h1, _⟩ := h
  exact ty_row h1
theorem Tab.keep {w w' : World} {g T m : Nat} {L : Nat → List Int} {Q : Nat → Prop} (h : Tab w g T m L Q) (hb : Below w.heap.size w w') : Tab w' g T m L Q := by
  obtain ⟨r, h1, h2⟩ := h
  exact ⟨r, h1.of_block (hb.block T h1.lt), h2.keep hb⟩
theorem Tab.mono {w : World} {g T m : Nat} {L : Nat → List Int} {Q Q' : Nat → Prop} (h : Tab w g T m L Q) (hq : ∀ q, q < w.heap.size → Q q → Q' q) : Tab w g T m L Q' := by
  obtain ⟨r, h1, h2⟩ := h
  exact ⟨r, h1, h2.mono hq⟩
theorem Tab.congr {w : World} {g T m : Nat} {L L' : Nat → List Int} {Q : Nat → Prop} (h : Tab w g T m L Q) (hl : ∀ j, j < m → L j = L' j) : Tab w g T m L' Q := by
  obtain ⟨r, h1, h2⟩ := h
  exact ⟨r, h1, h2.congr hl⟩
theorem Tab.cells {w : World} {g T m : Nat} {L : Nat → List Int} {Q : Nat → Prop} (h : Tab w g T m L Q) :
    ∃ r, w.cell? ⟨T, 0, none⟩ = some (.pointer (some ⟨g, 0, none⟩)) ∧ w.cell? ⟨T, 1, none⟩ = some (.slice (some ⟨r, 0, none⟩) m m) ∧ Rws w (.slice (some ⟨r, 0, none⟩) m m) m L Q := by
  obtain ⟨r, h1, h2⟩ := h
  exact ⟨r, h1.cell (show 0 < 2 by decide), h1.cell (show 1 < 2 by decide), h2⟩
/-- What a call changes: the pool's blocks, and those of kind Q. -/
def ButQ (g b : Nat) (Q : Nat → Prop) (w w' : World) : Prop :=
  w'.os = w.os ∧ w'.tape = w.tape ∧ w'.output = w.output ∧ w.heap.size ≤ w'.heap.size ∧ ∀ j, j < w.heap.size → ¬ j = g → ¬ j = b → ¬ Q j → w'.heap[j]? = w.heap[j]?
theorem ButQ.refl (g b : Nat) (Q : Nat → Prop) (w : World) : ButQ g b Q w w := ⟨rfl, rfl, rfl, Nat.le_refl _, fun _ _ _ _ _ => rfl⟩
theorem ButQ.trans {g b : Nat} {Q : Nat → Prop} {w v u : World} (h : ButQ g b Q w v) (k : ButQ g b Q v u) : ButQ g b Q w u :=
  ⟨k.1.trans h.1, k.2.1.trans h.2.1, k.2.2.1.trans h.2.2.1, Nat.le_trans h.2.2.2.1 k.2.2.2.1, fun j h0 h1 h2 h3 => by rw [k.2.2.2.2 j (Nat.lt_of_lt_of_le h0 h.2.2.2.1) h1 h2 h3, h.2.2.2.2 j h0 h1 h2 h3]⟩
theorem ButQ.size {g b : Nat} {Q : Nat → Prop} {w v : World} (h : ButQ g b Q w v) : w.heap.size ≤ v.heap.size := h.2.2.2.1
theorem ButQ.of_below {g b : Nat} {Q : Nat → Prop} {w v : World} (h : Below w.heap.size w v) : ButQ g b Q w v := ⟨h.os, h.tape, h.output, h.size, fun j hj _ _ _ => h.block j hj⟩
theorem ButQ.of_but2 {g b : Nat} {Q : Nat → Prop} {w v : World} (h : But2 g b w v) : ButQ g b Q w v := ⟨h.1.os, h.1.tape, h.1.output, h.1.size, fun j hj h1 h2 _ => h.2 j hj h1 h2⟩
theorem ButQ.mono {g b : Nat} {Q Q' : Nat → Prop} {w v : World} (h : ButQ g b Q w v) (hq : ∀ q, q < w.heap.size → Q q → Q' q) : ButQ g b Q' w v := ⟨h.1, h.2.1, h.2.2.1, h.2.2.2.1, fun j h0 h1 h2 h3 => h.2.2.2.2 j h0 h1 h2 fun q => h3 (hq j h0 q)⟩
theorem ButQ.set {g b : Nat} {Q : Nat → Prop} {w v : World} (h : ButQ g b Q w v) {p : Addr} (hp : Q p.block ∨ w.heap.size ≤ p.block) (y : Value) : ButQ g b Q w (v.setCell p y) :=
  ⟨((Below.refl 0 v).setCell (p := p) (Nat.zero_le _) y).os.trans h.1, ((Below.refl 0 v).setCell (p := p) (Nat.zero_le _) y).tape.trans h.2.1, ((Below.refl 0 v).setCell (p := p) (Nat.zero_le _) y).output.trans h.2.2.1, Nat.le_trans h.2.2.2.1 ((Below.refl 0 v).setCell (p := p) (Nat.zero_le _) y).size, fun j h0 h1 h2 h3 => by
    rw [Below.heap_setCell _ _ _ _ (show j ≠ p.block from fun e => by subst e; rcases hp with q | q; exact h3 q; omega)]; exact h.2.2.2.2 j h0 h1 h2 h3⟩
theorem ButQ.below {g b B : Nat} {Q : Nat → Prop} {w v : World} (h : ButQ g b Q w v) (hg : B ≤ g) (hb : B ≤ b) (hs : B ≤ w.heap.size) (hq : ∀ q, Q q → B ≤ q) : Below B w v :=
  ⟨h.1, h.2.1, h.2.2.1, h.2.2.2.1, fun j hj => h.2.2.2.2 j (by omega) (by omega) (by omega) fun q => by have := hq j q; omega⟩
theorem ButQ.block {g b : Nat} {Q : Nat → Prop} {w v : World} (h : ButQ g b Q w v) {j : Nat} (h0 : j < w.heap.size) (h1 : ¬ j = g) (h2 : ¬ j = b) (h3 : ¬ Q j) : v.heap[j]? = w.heap[j]? := h.2.2.2.2 j h0 h1 h2 h3
end Go.Proofs.Ytpifemahakbegaa
/- Package block's own calls, but for those that go through all entries: a contract for each. -/
namespace Go.Proofs.Ytpifemahakbegaa
set_option linter.unusedVariables false
set_option linter.unusedSimpArgs false
open Go.RowKit

theorem Try.infoSlices : (Try.prog.info? 31).map (fun i => (i.zero, i.size, i.bytes)) = some (some (.slice none 0 0), 1, 24) := by kernel_rfl

theorem newTable_bad (g : Nat) (m : Int) (h : m < 0 ∨ 16 < m) (w : World) :
    Calls Try.prog 22 #[.pointer (some ⟨g, 0, none⟩), .int .i64 m] w fun e w' => e = .returned (.tuple #[.pointer none, .int .i64 11]) ∧ w' = w := by
  by_cases c : m < 0
  · go_enter Try.func22, Try.ntmps22
    go_wp2
    go_ret2
    exact ⟨rfl, rfl⟩
  · have c2 : 16 < m := by omega
    go_enter Try.func22, Try.ntmps22
    go_wp2
    go_ret2
    exact ⟨rfl, rfl⟩
theorem newTable_ok (g m : Nat) (h : m ≤ 16) (w : World) :
    Calls Try.prog 22 #[.pointer (some ⟨g, 0, none⟩), .int .i64 m] w fun e w' => ∃ T, e = .returned (.tuple #[.pointer (some ⟨T, 0, none⟩), .int .i64 0]) ∧ Tab w' g T m (fun _ => []) (fun q => w.heap.size ≤ q) ∧ w.heap.size ≤ T ∧ Below w.heap.size w w' := by
  have hmk := run_make_row' (P := Try.prog) 53 31 (.slice none 0 0) 24 Try.underlying53 Try.infoSlices rfl .i64 .i64 m (by omega) (by omega)
  go_enter Try.func22, Try.ntmps22
  go_wp2
  clear hmk
  go_ret2
  refine ⟨w.heap.size + 1, rfl, ⟨w.heap.size, ?_, rws_made ((World.rowIs_made w _ m _).alloc _) (Nat.le_refl _)⟩, by omega, two_boxes _ _ _⟩
  have := World.rowIs_alloc (w.alloc (.cells (madeCells #[.slice none 0 0] m) 31)) #[.pointer (some ⟨g, 0, none⟩), .slice (some ⟨w.heap.size, 0, none⟩) m m] 64 (tbc g w.heap.size m) (by
    intro i hi
    match i, hi with
    | 0, _ => rfl
    | 1, _ => rfl)
  simpa using this

theorem rows_any (g T m : Nat) (L : Nat → List Int) (Q : Nat → Prop) (w : World) (h : Tab w g T m L Q) :
    Calls Try.prog 24 #[.pointer (some ⟨T, 0, none⟩)] w fun e w' => e = .returned (.int .i64 m) ∧ w' = w := by
  obtain ⟨r, c0, c1, _⟩ := h.cells
  clear h c0
  go_enter Try.func24, Try.ntmps24
  go_wp2
  go_ret
  exact ⟨rfl, rfl⟩
theorem has_yes (g T m row : Nat) (L : Nat → List Int) (Q : Nat → Prop) (w : World) (h : Tab w g T m L Q) (hr : row < m) :
    Calls Try.prog 36 #[.pointer (some ⟨T, 0, none⟩), .int .i64 row] w fun e w' => e = .returned (.bool true) ∧ w' = w := by
  obtain ⟨r, c0, c1, _⟩ := h.cells
  clear h c0
  have z : decide ((row : Int) < m) = true := decide_eq_true (by omega)
  go_enter Try.func36, Try.ntmps36
  go_wp2
  go_ret
  exact ⟨rfl, rfl⟩
theorem has_no (g T m : Nat) (row : Int) (L : Nat → List Int) (Q : Nat → Prop) (w : World) (h : Tab w g T m L Q) (hr : ¬ (0 ≤ row ∧ row < m)) :
    Calls Try.prog 36 #[.pointer (some ⟨T, 0, none⟩), .int .i64 row] w fun e w' => e = .returned (.bool false) ∧ w' = w := by
  obtain ⟨r, c0, c1, _⟩ := h.cells
  clear h c0
  by_cases c : row < 0
  · have z : decide (0 ≤ row) = false := decide_eq_false (by omega)
    clear hr
    go_enter Try.func36, Try.ntmps36
    go_wp2
    go_ret
    exact ⟨rfl, rfl⟩
  · have z0 : decide (0 ≤ row) = true := decide_eq_true (by omega)
    have z : decide (row < (m : Int)) = false := decide_eq_false (by omega)
    clear hr
    go_enter Try.func36, Try.ntmps36
    go_wp2
    go_ret
    exact ⟨rfl, rfl⟩
theorem len_yes (g T m row k : Nat) (L : Nat → List Int) (Q : Nat → Prop) (w : World) (h : Tab w g T m L Q) (hr : row < m) (hk : (L row).length = k) :
    Calls Try.prog 19 #[.pointer (some ⟨T, 0, none⟩), .int .i64 row] w fun e w' => e = .returned (.int .i64 k) ∧ w' = w := by
  obtain ⟨r, c0, c1, hrw⟩ := h.cells
  obtain ⟨d, c, A, C, e, hc, _⟩ := hrw.cell hr
  cases e
  rw [hk] at hc
  have H : Hid (Tab w g T m L Q) := h
  clear h c0 hrw hk
  go_enter Try.func19, Try.ntmps19
  go_wp2_with (go_at_call 36; refine (has_yes g T m row L Q _ H.out hr).mono ?_; rintro e w' ⟨rfl, hww⟩; cases hww.symm; clear hww)
  go_ret
  exact ⟨rfl, rfl⟩
theorem len_no (g T m : Nat) (row : Int) (L : Nat → List Int) (Q : Nat → Prop) (w : World) (h : Tab w g T m L Q) (hr : ¬ (0 ≤ row ∧ row < m)) :
    Calls Try.prog 19 #[.pointer (some ⟨T, 0, none⟩), .int .i64 row] w fun e w' => e = .returned (.int .i64 0) ∧ w' = w := by
  have H : Hid (Tab w g T m L Q) := h
  have HR : Hid (¬ (0 ≤ row ∧ row < m)) := hr
  clear h hr
  go_enter Try.func19, Try.ntmps19
  go_wp2_with (go_at_call 36; refine (has_no g T m row L Q _ H.out HR.out).mono ?_; rintro e w' ⟨rfl, hww⟩; cases hww.symm; clear hww)
  go_ret
  exact ⟨rfl, rfl⟩
/-- At: there is no such entry. -/
theorem at_no (g T m : Nat) (row i : Int) (L : Nat → List Int) (Q : Nat → Prop) (w : World) (h : Tab w g T m L Q) (hr : ¬ (0 ≤ row ∧ row < m ∧ 0 ≤ i ∧ i < (L row.toNat).length)) :
    Calls Try.prog 20 #[.pointer (some ⟨T, 0, none⟩), .int .i64 row, .int .i64 i] w fun e w' => e = .returned (.tuple #[.pointer none, .int .i64 11]) ∧ w' = w := by
  have H : Hid (Tab w g T m L Q) := h
  by_cases c : i < 0
  · clear h hr
    go_enter Try.func20, Try.ntmps20
    go_wp2
    go_ret2
    exact ⟨rfl, rfl⟩
  by_cases c1 : 0 ≤ row ∧ row < m
  · obtain ⟨k, rfl⟩ : ∃ k : Nat, row = k := ⟨row.toNat, by omega⟩
    have hk : k < m := by omega
    obtain ⟨n, en⟩ : ∃ n, (L k).length = n := ⟨_, rfl⟩
    have EN : Hid ((L k).length = n) := en
    have z : (n : Int) ≤ i := by rw [← en]; simp at hr; omega
    clear h hr en c1
    go_enter Try.func20, Try.ntmps20
    go_wp2_with (go_at_call 19; refine (len_yes g T m k n L Q _ H.out hk EN.out).mono ?_; rintro e w' ⟨rfl, hww⟩; cases hww.symm; clear hww)
    go_ret2
    exact ⟨rfl, rfl⟩
  · have C1 : Hid (¬ (0 ≤ row ∧ row < m)) := c1
    have z : (0 : Int) ≤ i := by omega
    clear h hr c1
    go_enter Try.func20, Try.ntmps20
    go_wp2_with (go_at_call 19; refine (len_no g T m row L Q _ H.out C1.out).mono ?_; rintro e w' ⟨rfl, hww⟩; cases hww.symm; clear hww)
    go_ret2
    exact ⟨rfl, rfl⟩
theorem get_page (g b n k q : Nat) (R M : List Int) (w : World) (h : PoolAt w g b n R M) (hk : k < n) (hr : 0 < Ls.nth R k) (s0 : w.cell? ⟨b, k * 2, none⟩ = some (.pointer (some ⟨q, 0, none⟩))) :
    Calls Try.prog 39 #[.pointer (some ⟨g, 0, none⟩), .int .i64 k] w fun e w' => e = .returned (.tuple #[.pointer (some ⟨q, 0, none⟩), .int .i64 0]) ∧ w' = w := by
  have HP : Hid (PoolAt w g b n R M) := h
  have HR : Hid (0 < Ls.nth R k) := hr
  clear h hr
  go_enter Try.func39, Try.ntmps39
  go_wp2_with (go_at_call 33; refine (held_some g b n k R M _ HP.out hk HR.out).mono ?_; rintro e w' ⟨rfl, hww⟩; cases hww.symm; clear hww)
  go_ret2
  exact ⟨rfl, rfl⟩
/-- At: the page of the entry's slot. -/
theorem at_ok (g b n T m row i s : Nat) (R M : List Int) (L : Nat → List Int) (Q : Nat → Prop) (w : World) (hp : PoolAt w g b n R M) (h : Tab w g T m L Q) (hr : row < m) (hi : i < (L row).length) (es : Ls.nth (L row) i = s) (hs : s < n) (h0 : 0 < Ls.nth R s) :
    Calls Try.prog 20 #[.pointer (some ⟨T, 0, none⟩), .int .i64 row, .int .i64 i] w fun e w' => ∃ q, e = .returned (.tuple #[.pointer (some ⟨q, 0, none⟩), .int .i64 0]) ∧ PgM w' q (Ls.nth M s) ∧ Below w.heap.size w w' := by
  obtain ⟨r, c0, c1, hrw⟩ := h.cells
  obtain ⟨d, c, A, C, e, hc, _, hl, _⟩ := hrw.cell hr
  cases e
  obtain ⟨ab, ao, rfl, hg⟩ := hl.get hi
  have s0 := hg i hi
  rw [es] at s0
  obtain ⟨k, ek⟩ : ∃ k, (L row).length = k := ⟨_, rfl⟩
  have EK : Hid ((L row).length = k) := ek
  rw [ek] at hc hi
  have H : Hid (Tab w g T m L Q) := h
  have HP : Hid (PoolAt w g b n R M) := hp
  have H0 : Hid (0 < Ls.nth R s) := h0
  have z : ¬ (k : Int) ≤ i := by omega
  obtain ⟨q, p0, _, _, hq⟩ := hp.page hs h0
  have HQ : Hid (PgM w q (Ls.nth M s)) := hq
  have P0 : Hid (w.cell? ⟨b, s * 2, none⟩ = some (.pointer (some ⟨q, 0, none⟩))) := p0
  clear p0 hq
  clear h hp h0 hg hl hrw es ek
  go_enter Try.func20, Try.ntmps20
  go_wp2_with (go_at_call 19; refine (len_yes g T m row k L Q _ H.out hr EK.out).mono ?_; rintro e w' ⟨rfl, hww⟩; cases hww.symm; clear hww)
  go_quiet ((go_at_call 39; exact (get_page g b n s q R M _ (HP.out.keep (below_drewN (Below.refl _ _) _)) hs H0.out (by simpa using P0.out)).mono fun _ _ ⟨he, hw⟩ => ⟨he, _, hw⟩))
  go_wp2
  go_ret2
  exact ⟨_, rfl, HQ.out.keep (below_drewN (Below.refl _ _) _), below_drewN (Below.refl _ _) _⟩
end Go.Proofs.Ytpifemahakbegaa
/- Package block's Add. -/
namespace Go.Proofs.Ytpifemahakbegaa
set_option linter.unusedVariables false
set_option linter.unusedSimpArgs false
open Go.RowKit

theorem add_no (g T m : Nat) (row : Int) (x : Value) (L : Nat → List Int) (Q : Nat → Prop) (w : World) (h : Tab w g T m L Q) (hr : ¬ (0 ≤ row ∧ row < m)) :
    Calls Try.prog 16 #[.pointer (some ⟨T, 0, none⟩), .int .i64 row, x] w fun e w' => e = .returned (.int .i64 11) ∧ w' = w := by
  have H : Hid (Tab w g T m L Q) := h
  have HR : Hid (¬ (0 ≤ row ∧ row < m)) := hr
  clear h hr
  go_enter Try.func16, Try.ntmps16
  go_wp2_with (go_at_call 36; refine (has_no g T m row L Q _ H.out HR.out).mono ?_; rintro e w' ⟨rfl, hww⟩; cases hww.symm; clear hww)
  go_ret
  exact ⟨rfl, rfl⟩
theorem add_full (g b n T m row : Nat) (x : Value) (R M : List Int) (L : Nat → List Int) (Q : Nat → Prop) (w : World) (hp : PoolAt w g b n R M) (h : Tab w g T m L Q) (hr : row < m) (hl : ∀ i, i < R.length → ¬ Ls.nth R i = 0) :
    Calls Try.prog 16 #[.pointer (some ⟨T, 0, none⟩), .int .i64 row, x] w fun e w' => e = .returned (.int .i64 23) ∧ w' = w := by
  obtain ⟨r, c0, c1, hrw⟩ := h.cells
  have H : Hid (Tab w g T m L Q) := h
  have HP : Hid (PoolAt w g b n R M) := hp
  have HL : Hid (∀ i, i < R.length → ¬ Ls.nth R i = 0) := hl
  clear h hp hl hrw
  go_enter Try.func16, Try.ntmps16
  go_wp2_with (first
    | (go_at_call 36; refine (has_yes g T m row L Q _ H.out hr).mono ?_; rintro e w' ⟨rfl, hww⟩; cases hww.symm; clear hww)
    | (go_at_call 37; refine (put_full g b n x R M _ HP.out HL.out).mono ?_; rintro e w' ⟨rfl, hww⟩; cases hww.symm; clear hww))
  go_ret
  exact ⟨rfl, rfl⟩
theorem map_snoc (l : List Int) (y : Int) : l.map (Value.int .i64) ++ [.int .i64 y] = (l ++ [y]).map (Value.int .i64) := by simp
theorem row_snoc {w : World} {v : Value} {l : List Int} {k : Nat} {y : Int} (h : w.ownsRow 0 3 1 v (k + 1) (l.map (Value.int .i64) ++ [.int .i64 y])) (hk : l.length = k) : RowAt w v (l ++ [y]) := by
  subst hk
  unfold RowAt
  rw [← map_snoc, List.length_append]
  exact h
/-- Behind a pool's own changes rows stand: they bear other types. -/
theorem PoolAt.rws {w w' : World} {g b n : Nat} {R M : List Int} (h : PoolAt w g b n R M) (hb : But2 g b w w') {v : Value} {m : Nat} {L : Nat → List Int} {Q : Nat → Prop} (hr : Rws w v m L Q) : Rws w' v m L Q :=
  hr.stand fun q _ ht => hb.2 q (by rcases ht with t | t <;> exact t.lt) (by rcases ht with t | t <;> exact fun e => t.ne h.tys.1 (by decide) e) (by rcases ht with t | t <;> exact fun e => t.ne h.tys.2 (by decide) e)
theorem PoolAt.tab {w w' : World} {g b n : Nat} {R M : List Int} (h : PoolAt w g b n R M) (hb : But2 g b w w') {T m : Nat} {L : Nat → List Int} {Q : Nat → Prop} (ht : Tab w g T m L Q) : Tab w' g T m L Q := by
  have n1 : ¬ T = g := ht.ty.ne h.tys.1 (by decide)
  have n2 : ¬ T = b := ht.ty.ne h.tys.2 (by decide)
  obtain ⟨r, h1, h2⟩ := ht
  exact ⟨r, h1.of_block (hb.2 T h1.lt n1 n2), h.rws hb h2⟩
theorem add_grown {w w1 : World} {g b : Nat} {Q : Nat → Prop} {v : Value} {o : Obj} (h : (w.drew.alloc o).grownBy w1 v.ownBlock) (hq : ∀ x, v.ownBlock = some x → Q x ∧ Ty w x 3) : ButQ g b Q w w1 ∧ ∀ j, j < w.heap.size → ¬ v.ownBlock = some j → w1.heap[j]? = w.heap[j]? := by
  have far : ∀ j, j < w.heap.size → ¬ v.ownBlock = some j → w1.heap[j]? = w.heap[j]? := fun j hj hn => by
    rw [h.block j (by simp; omega) (fun e => hn e.symm)]
    exact (((Below.refl w.heap.size w).drew).alloc (Nat.le_refl _) o).block j hj
  have b0 : Below 0 w (w.drew.alloc o) := ((Below.refl _ _).drew).alloc (Nat.zero_le _) _
  exact ⟨⟨h.os.trans b0.os, h.tape.trans b0.tape, h.output.trans b0.output, Nat.le_trans b0.size h.size, fun j hj _ _ hn => far j hj fun e => hn (hq j e).1⟩, far⟩
set_option maxHeartbeats 800000 in
theorem add_ok (g b n T m row k q : Nat) (mk : Int) (R M : List Int) (L : Nat → List Int) (Q : Nat → Prop) (w : World) (hp : PoolAt w g b n R M) (h : Tab w g T m L Q) (hr : row < m) (hL : (L row).length ≤ 100000) (hk : k < n) (h0 : Ls.nth R k = 0) (hl : ∀ i, i < k → ¬ Ls.nth R i = 0) (hq : PgM w q mk) :
    Calls Try.prog 16 #[.pointer (some ⟨T, 0, none⟩), .int .i64 row, .pointer (some ⟨q, 0, none⟩)] w fun e w' => e = .returned (.int .i64 0) ∧ PoolAt w' g b n (R.set k 1) (M.set k mk) ∧
      Tab w' g T m (Bk.up L row (L row ++ [(k : Int)])) (fun j => Q j ∨ w.heap.size ≤ j) ∧ ButQ g b Q w w' := by
  obtain ⟨i0, hi0, hi1, hi2, hi3⟩ := info_parts Try.infoIntG
  obtain ⟨r, c0, c1, hrw⟩ := h.cells
  have HP : Hid (PoolAt w g b n R M) := hp
  have H : Hid (Tab w g T m L Q) := h
  have H0 : Hid (Ls.nth R k = 0) := h0
  have HL : Hid (∀ i, i < k → ¬ Ls.nth R i = 0) := hl
  have HQ : Hid (PgM w q mk) := hq
  have q1 : ¬ q = g := by obtain ⟨f, _, _, _, _, _, _, hr', _⟩ := hq; exact (ty_row hr').ne hp.tys.1 (by decide)
  have q2 : ¬ q = b := by obtain ⟨f, _, _, _, _, _, _, hr', _⟩ := hq; exact (ty_row hr').ne hp.tys.2 (by decide)
  have HN : Hid (¬ q = g ∧ ¬ q = b) := ⟨q1, q2⟩
  obtain ⟨n0, en⟩ : ∃ n0, (L row).length = n0 := ⟨_, rfl⟩
  have EN : Hid ((L row).length = n0) := en
  rw [en] at hL
  clear hp h h0 hl hq q1 q2 en hrw
  go_enter Try.func16, Try.ntmps16
  go_upto_region 6 with (first
    | (go_at_call 36; refine (has_yes g T m row L Q _ H.out hr).mono ?_; rintro e w' ⟨rfl, hww⟩; cases hww.symm; clear hww)
    | (go_at_call 37; refine (put_ok g b n k q mk R M _ HP.out hk H0.out HL.out HQ.out HN.out.1 HN.out.2).mono ?_; rintro e w' ⟨rfl, hpp, hbb⟩))
  have PP : Hid (PoolAt w' g b n (R.set k 1) (M.set k mk) ∧ But2 g b w w') := ⟨hpp, hbb⟩
  have ht' := HP.out.tab hbb H.out
  clear hpp hbb c0 c1
  obtain ⟨r, c0, c1, hrw⟩ := ht'.cells
  have HT : Hid (w'.rowIs T 64 2 (tbc g r m)) := by
    obtain ⟨r', h1, _⟩ := ht'
    have := h1.cell (show 1 < 2 by decide)
    rw [c1] at this
    cases this
    exact h1
  clear ht'
  obtain ⟨d, c, A, C, e, hc, ho, _⟩ := hrw.cell hr
  cases e
  have HO : Hid (RowAt w' (.slice A (L row).length C) (L row)) := ho
  have HR : Hid (Rws w' (.slice (some ⟨r, 0, none⟩) m m) m L Q) := hrw
  have HC : Hid (w'.cell? ⟨r, row, none⟩ = some (.slice A (L row).length C)) := hc
  have hall : w'.frozen? ⟨r, row, none⟩ = false ∧ Q r ∧ (∀ x, (Value.slice A (L row).length C).ownBlock = some x → Q x ∧ Ty w' x 3) ∧ Ty w' r 31 := by
    rcases hrw with ⟨h, _⟩ | ⟨d, c, F, e, _, hr', hd, h1, h2, _⟩
    · cases h
    · cases e
      have hv : F row = .slice A (L row).length C := by have := hr'.cell hr; rw [hc] at this; exact (Option.some.inj this).symm
      refine ⟨hr'.frozen _, hd, fun x ex => ?_, ty_row hr'⟩
      rw [← hv] at ex
      exact ⟨h2 row hr x ex, ty_own (h1 row hr) ex⟩
  rw [EN.out] at hall
  obtain ⟨fr, hQr, hQo, tr⟩ := hall
  have HQr : Hid (Q r) := hQr
  have HQo : Hid (∀ x, (Value.slice A n0 C).ownBlock = some x → Q x ∧ Ty w' x 3) := hQo
  have rlt : r < w'.heap.size := tr.lt
  have Tlt : T < w'.heap.size := HT.out.lt
  have TNE : Hid (¬ (Value.slice A n0 C).ownBlock = some T) := fun e => (hQo T e).2.ne (ty_row HT.out) (by decide) rfl
  have C1 : Hid (w'.cell? ⟨T, 1, none⟩ = some (.slice (some ⟨r, 0, none⟩) m m)) := c1
  have TR : Hid (Ty w' r 31) := tr
  have rne : Hid (some r ≠ (Value.slice A n0 C).ownBlock) := fun e => (hQo r e.symm).2.ne tr (by decide) rfl
  have ho2 : w'.ownsRow 0 3 1 (.slice A n0 C) n0 ((L row).map (Value.int .i64)) := by have := ho; unfold RowAt at this; rw [EN.out] at this; exact this
  have HO2 : Hid (w'.ownsRow 0 3 1 (.slice A n0 C) n0 ((L row).map (Value.int .i64))) := ho2
  rw [EN.out] at hc
  have HC2 : Hid (w'.cell? ⟨r, row, none⟩ = some (.slice A n0 C)) := hc
  have FR : Hid (w'.frozen? ⟨r, row, none⟩ = false) := fr
  clear ho ho2 hrw hQr hQo tr fr HO HC
  go_region_law (refine step_append_lies _ (by rfl) _ _ _ (by rfl) 0 3 i0 _ 1 8 Try.underlying31 hi0 hi1 hi2 hi3 rfl (by omega) _ n0 _ (by rfl) (HO2.out.drew.alloc _) ⟨w'.heap.size, 0, none⟩ 1 1 [.int .i64 (k : Int)] (by rfl) (by rfl) (World.news_of_block (cs := #[.int .i64 (k : Int)]) (t := 3) (fr := (0, 0)) (heap_alloc_new w'.drew _)) (by simp [Value.oneCell']) (by omega) (by unfold maxLen; omega) (by omega) (by omega) (w'.heap.size + 1) (by simp) ?_; intro gg cap w1 hown1 hgrow hat hlt1; have HA : Hid (w1.ownsRow 0 3 1 (.slice (some ⟨gg, 0, none⟩) (n0 + 1) cap) (n0 + 1) ((L row).map (Value.int .i64) ++ [.int .i64 (k : Int)])) := hown1; have HG : Hid (ButQ g b Q w' w1 ∧ ∀ j, j < w'.heap.size → ¬ (Value.slice A n0 C).ownBlock = some j → w1.heap[j]? = w'.heap[j]?) := (add_grown (b := b) (g := g) hgrow HQo.out); have HAT : Hid ((Value.slice A n0 C).ownBlock = some gg ∨ gg = w'.heap.size + 1) := hat; have ct := (World.cell?_of_block (a := ⟨T, 1, none⟩) (HG.out.2 T Tlt TNE.out)).trans C1.out; have rb := HG.out.2 r rlt (fun e => rne.out e.symm); have cc := (World.cell?_of_block (a := ⟨r, row, none⟩) rb).trans HC2.out; have ff := (World.frozen?_of_block (a := ⟨r, row, none⟩) rb).trans FR.out; clear hown1 hgrow hat rb)
  all_goals
    go_wp2
    go_ret
    have hsz := PP.out.2.size
    have r1 : Rws (w1.setCell ⟨r, row, none⟩ (.slice (some ⟨gg, 0, none⟩) (n0 + 1) cap)) (.slice (some ⟨r, 0, none⟩) m m) m (Bk.up L row (L row ++ [(k : Int)])) (fun q => Q q ∨ w'.heap.size ≤ q) :=
      HR.out.more hr HC2.out (row_snoc HA.out EN.out) (fun x ex => by have ex : some gg = some x := ex; cases ex; exact HAT.out.imp id fun e => by omega) (fun j hj hn => HG.out.2 j hj hn)
    have hTr : ¬ T = r := HT.out |> ty_row |>.ne TR.out (by decide)
    have hT1 : w1.heap[T]? = w'.heap[T]? := HG.out.2 T HT.out.lt (fun e => (HQo.out T e).2.ne (ty_row HT.out) (by decide) rfl)
    have tr1 : Ty w1 r 31 := TR.out.of_block (HG.out.2 r rlt (fun e => rne.out e.symm))
    refine ⟨rfl, ?_, ⟨r, ?_, r1.mono fun j _ hj => hj.imp id fun h => by omega⟩, ?_⟩
    · refine PoolAt.far (PP.out.1.stand fun j hj => ?_) tr1 (by decide) (by decide) (by decide) _ _
      refine HG.out.2 j (by rcases hj with h | h | h <;> exact h.lt) fun e => ?_
      have := (HQo.out j e).2
      rcases hj with h | h | h <;> exact this.ne h (by decide) rfl
    · refine HT.out.of_block ?_
      rw [Below.heap_setCell _ _ _ _ (show T ≠ r from hTr)]
      exact hT1
    · refine ButQ.set ?_ (.inl HQr.out) _
      exact (ButQ.of_but2 PP.out.2).trans HG.out.1
end Go.Proofs.Ytpifemahakbegaa
/- The library's Clone, Grow and Concat at rows of numbers, and package block's Slots. -/
namespace Go.Proofs.Ytpifemahakbegaa
set_option linter.unusedVariables false
set_option linter.unusedSimpArgs false
open Go.RowKit

theorem lst_none {k : IntKind} {w : World} {l : List Int} (h : Lst k w none l) : l = [] := by
  cases l with
  | nil => rfl
  | cons x l => obtain ⟨b, o, e, _⟩ := h 0 (by simp); cases e
set_option maxRecDepth 100000 in
theorem cloneR_any (A : Option Addr) (n C : Nat) (l : List Int) (w : World) (h : Lst .i64 w A l) (hn : l.length = n) (hc : A = none → C = 0) (hl : n ≤ 100000) :
    Calls Try.prog 34 #[.slice A n C] w fun e w' => ∃ v, e = .returned v ∧ w'.ownsRow w.heap.size 3 1 v n (l.map (Value.int .i64)) ∧ Below w.heap.size w w' := by
  cases A with
  | none =>
    have e := lst_none h
    subst e
    have e0 : n = 0 := hn.symm
    subst e0
    have ec := hc rfl
    subst ec
    clear h hn hc
    have hq : (binOp .eql 31 (.slice none 0 0) (.slice none 0 0)).run Try.prog w = .ok (.bool true) w := slice_nil w _ _ none _ _ Try.underlying31
    go_enter Try.func34, Try.ntmps34
    go_wp2
    go_ret
    exact ⟨_, rfl, World.ownsRow_nil _ _ _ _, Below.refl _ _⟩
  | some x =>
    subst hn
    have HL : Hid (Lst .i64 w (some x) l) := h
    clear h hc
    have hq : (binOp .eql 31 (.slice (some x) l.length C) (.slice none 0 0)).run Try.prog w = .ok (.bool false) w := slice_nil w _ _ (some x) _ _ Try.underlying31
    go_enter Try.func34, Try.ntmps34
    go_wp2_with (at_builtin; refine wpList_append_lst rfl _ _ 31 rfl w.heap.size 3 .i64 8 Try.underlying31 Try.infoIntG _ 0 [] (by rfl) (World.ownsRow_made w #[] 0 (Nat.le_refl _) (by decide) rfl) (some x) l C (by rfl) (HL.out.keep (box_below _ _)) (fun e => nomatch e) (by unfold maxLen; omega) (by omega) (by simp) ?_; intro v1 u1 ho1 hg1; simp only [Nat.zero_add, List.nil_append] at ho1; have O1 : Hid (u1.ownsRow w.heap.size 3 1 v1 l.length (l.map (Value.int .i64))) := ho1; have B1 : Hid (Below w.heap.size w u1) := (box_below _ _).grown hg1 (by simp) (by intro k hk; cases hk; exact Nat.le_refl _); clear ho1 hg1)
    go_ret
    exact ⟨_, rfl, O1.out, B1.out⟩
set_option maxHeartbeats 800000 in
set_option maxRecDepth 100000 in
theorem grow_nil (n : Nat) (hn : n ≤ 100000) (w : World) :
    Calls Try.prog 44 #[.slice none 0 0, .int .i64 n] w fun e w' => ∃ v, e = .returned v ∧ w'.ownsRow w.heap.size 3 1 v 0 [] ∧ Below w.heap.size w w' := by
  by_cases h0 : n = 0
  · subst h0
    go_enter Try.func44, Try.ntmps44
    go_wp2
    go_ret
    exact ⟨_, rfl, World.ownsRow_nil _ _ _ _, Below.refl _ _⟩
  · obtain ⟨i0, hi0, hi1, hi2, hi3⟩ := info_parts Try.infoIntG
    have z0 : (0 : Int) < n := by omega
    have hrz : ∀ ty, (Builtin.append_ #[31, 3] ty #[.slice none 0 0, .int .i64 (n : Int)]).run Try.prog w =
        .ok (.slice (some ⟨w.heap.size, 0, none⟩) n (grownCap w n 0 3)) (w.drew.alloc (.cells (#[] ++ Builtin.zeroCells (Value.int .i64 0).cells n ++ Builtin.zeroCells (Value.int .i64 0).cells (grownCap w n 0 3 - n)) 3)) := fun ty => by
      have h := Lib.run_append_grow_zeros (P := Try.prog) w 31 3 ty 3 i0 (.int .i64 0) .i64 .i64 Try.underlying31 Try.underlying3 hi0 hi1 none 0 0 [] (by rw [hi2]; exact run_firstCells_none w.drew 1 0 0 0) n (by omega) (by omega) (by omega) (by omega)
        (by rw [hi3]; omega) (by rw [hi3]; exact growslice_fits (by omega) (by omega))
      simpa using h
    have hG := grownCap_ge w n 0 3
    have hG2 := grownCap_le_maxLen w n 0 3 (by unfold maxLen; omega)
    obtain ⟨G, eG⟩ : ∃ G, grownCap w n 0 3 = G := ⟨_, rfl⟩
    rw [eG] at hrz hG hG2
    clear eG h0
    have hG63 : G ≤ 9223372036854775807 := by unfold maxLen at hG2; omega
    go_enter Try.func44, Try.ntmps44
    go_wp2_with (at_builtin; refine Lib.wpList_append_run _ rfl _ _ _ _ rfl _ _ rfl rfl _ _ (hrz _) ?_)
    all_goals
      go_ret
      refine ⟨_, rfl, World.ownsRow_made w.drew _ G (Nat.le_refl _) hG2 ?_, ((Below.refl _ _).drew).alloc (Nat.le_refl _) _⟩
      simp [Builtin.zeroCells, Value.cells]
      omega
end Go.Proofs.Ytpifemahakbegaa
/- All rows behind one another: the library's Concat, package block's Slots. -/
namespace Go.Proofs.Ytpifemahakbegaa
set_option linter.unusedVariables false
set_option linter.unusedSimpArgs false
open Go.RowKit

set_option maxRecDepth 100000 in
set_option maxHeartbeats 1600000 in
theorem concat_any (v : Value) (m : Nat) (L : Nat → List Int) (Q : Nat → Prop) (w : World) (h : Rws w v m L Q) (hm : m ≤ 100000) (hl : Bk.len L m ≤ 100000) :
    Calls Try.prog 31 #[v] w fun e w' => ∃ u, e = .returned u ∧ w'.ownsRow w.heap.size 3 1 u (Bk.len L m) ((Bk.flat L m).map (Value.int .i64)) ∧ Below w.heap.size w w' := by
  obtain ⟨a, c, rfl⟩ := h.slice
  have HR : Hid (Rws w (.slice a m c) m L Q) := h
  have HT : Hid (Bk.len L m ≤ 100000) := hl
  clear h hl
  go_enter Try.func31, Try.ntmps31
  go_wp2
  go_loop [3, 11] (fun s i => ∃ k : Nat, k ≤ m ∧ i = .int .i64 k ∧ s = .int .i64 (Bk.len L k)) (fun _ i => m - (intOf i).toNat)
  case atStart => exact ⟨0, Nat.zero_le _, rfl, rfl⟩
  case round =>
    obtain ⟨k, hk, rfl, rfl⟩ := hrel
    have t1 := Bk.len_mono L hk
    have t2 := HT.out
    obtain ⟨sk, esk⟩ : ∃ s, Bk.len L k = s := ⟨_, rfl⟩
    have ESK : Hid (Bk.len L k = sk) := esk
    rw [esk] at t1 ⊢
    by_cases hlt : k < m
    · obtain ⟨d, c', A, C, e, hc, _⟩ := HR.out.cell hlt
      cases e
      have t3 := Bk.len_mono L (show k + 1 ≤ m by omega)
      rw [Bk.len_succ, esk] at t3
      obtain ⟨nk, enk⟩ : ∃ s, (L k).length = s := ⟨_, rfl⟩
      have ENK : Hid ((L k).length = nk) := enk
      rw [enk] at t3 hc
      have z : ¬ ((sk : Int) + nk < 0) := by omega
      clear esk enk
      go_wp2
      go_round
      case rel => exact ⟨k + 1, by omega, by go_num, by rw [Bk.len_succ, ESK.out, ENK.out]; go_num⟩
      case measure => simp [intOf]; omega
    · have ek : k = m := by omega
      subst ek
      clear esk
      go_wp2_with (go_at_call 44; refine (grow_nil sk (by omega) _).mono ?_; rintro e w' ⟨v1, rfl, ho, hb⟩; have HO : Hid (w'.ownsRow w.heap.size 3 1 v1 0 []) := ho; have HB : Hid (Below w.heap.size w w') := hb; clear ho hb)
      go_loopw [6, 27] (fun v i wr => ∃ j : Nat, j ≤ k ∧ i = .int .i64 j ∧ wr.ownsRow w.heap.size 3 1 v (Bk.len L j) ((Bk.flat L j).map (Value.int .i64)) ∧ Below w.heap.size w wr) (fun _ i _ => k - (intOf i).toNat)
      case atStart => exact ⟨0, Nat.zero_le _, rfl, HO.out, HB.out⟩
      case round =>
        obtain ⟨j, hj, rfl, ho, hb⟩ := hrel
        have t3 := Bk.len_mono L hj
        have HO1 : Hid (wr.ownsRow w.heap.size 3 1 u6 (Bk.len L j) ((Bk.flat L j).map (Value.int .i64))) := ho
        have HB1 : Hid (Below w.heap.size w wr) := hb
        have hsz := hb.size
        clear ho hb
        by_cases hlt : j < k
        · obtain ⟨d, c', A, C, e, hc, ho, hA, hn⟩ := (HR.out.keep HB1.out).cell hlt
          cases e
          have HA : Hid (Lst .i64 wr A (L j)) := hA
          have HN : Hid (A = none → C = 0) := hn
          have t4 := Bk.len_mono L (show j + 1 ≤ k by omega)
          rw [Bk.len_succ] at t4
          rw [ESK.out] at t4
          clear hA hn ho
          go_wp2_with (at_builtin; refine wpList_append_lst rfl _ _ 31 rfl w.heap.size 3 .i64 8 Try.underlying31 Try.infoIntG _ (Bk.len L j) _ (by rfl) HO1.out A (L j) C (by rfl) HA.out HN.out (by unfold maxLen; omega) (by omega) hsz ?_; intro v2 u2 ho2 hg2; have O2 : Hid (u2.ownsRow w.heap.size 3 1 v2 (Bk.len L j + (L j).length) ((Bk.flat L j).map (Value.int .i64) ++ (L j).map (Value.int .i64))) := ho2; have B2 : Hid (Below w.heap.size w u2) := HB1.out.grown hg2 hsz (fun q hq => (HO1.out.lt q hq).1); clear ho2 hg2)
          go_roundw
          case rel => exact ⟨j + 1, by omega, by go_num, by have := O2.out; rw [← Bk.len_succ, ← List.map_append] at this; exact this, B2.out⟩
          case measure => simp [intOf]; omega
        · have ej : j = k := by omega
          subst ej
          clear t3
          go_wp2
          go_ret
          exact ⟨_, rfl, HO1.out, HB1.out⟩
theorem slots_any' (g T m N : Nat) (L : Nat → List Int) (Q : Nat → Prop) (w : World) (h : Tab w g T m L Q) (hm : m ≤ 100000) (hN : Bk.len L m = N) (hl : N ≤ 100000) :
    Calls Try.prog 12 #[.pointer (some ⟨T, 0, none⟩)] w fun e w' => ∃ a c, e = .returned (.slice a N c) ∧ w'.ownsRow w.heap.size 3 1 (.slice a N c) N ((Bk.flat L m).map (Value.int .i64)) ∧ Lst .i64 w' a (Bk.flat L m) ∧ Below w.heap.size w w' := by
  subst hN
  obtain ⟨r, c0, c1, hrw⟩ := h.cells
  have HR : Hid (Rws w (.slice (some ⟨r, 0, none⟩) m m) m L Q) := hrw
  have HL : Hid (Bk.len L m ≤ 100000) := hl
  clear h hrw hl c0
  go_enter Try.func12, Try.ntmps12
  go_wp2_with (go_at_call 31; refine (concat_any _ m L Q _ HR.out hm HL.out).mono ?_; rintro e w' ⟨u, rfl, ho, hb⟩; have HO : Hid (w'.ownsRow w.heap.size 3 1 u (Bk.len L m) ((Bk.flat L m).map (Value.int .i64))) := ho; have HB : Hid (Below w.heap.size w w') := hb; clear ho hb)
  obtain ⟨a, c, e, hl⟩ := lst_of_ownm HO.out rfl
  cases e
  have HA : Hid (Lst .i64 w' a (Bk.flat L m)) := hl
  clear hl
  go_wp2
  go_ret
  exact ⟨a, c, rfl, HO.out, HA.out, HB.out⟩
end Go.Proofs.Ytpifemahakbegaa
/- What Fork and Clear leave: counts along a list, rows that are filled one by one, rows that are cleared. -/
namespace Go.Proofs.Ytpifemahakbegaa
set_option linter.unusedVariables false
open Go.RowKit

theorem Bk.take_snoc {l : List Int} {j : Nat} (h : j < l.length) : l.take (j + 1) = l.take j ++ [Ls.nth l j] := by
  rw [List.take_add_one]
  simp [Ls.nth, h]
theorem Bk.bump_take {R l : List Int} {j k : Nat} {d x : Int} (h : j < l.length) (ex : Ls.nth l j = (k : Int)) (ey : Ls.nth (Bk.bump R d (l.take j)) k = x) : Bk.bump R d (l.take (j + 1)) = (Bk.bump R d (l.take j)).set k (x + d) := by
  rw [Bk.take_snoc h, Bk.bump_append, ex]
  show (Bk.bump R d (l.take j)).set (k : Int).toNat (Ls.nth _ (k : Int).toNat + d) = _
  simp [ey]
theorem Bk.occ_take {l : List Int} {j : Nat} (h : j < l.length) : Bk.occ (Ls.nth l j) (l.take j) + 1 ≤ Bk.occ (Ls.nth l j) l := by
  have h1 : Bk.occ (Ls.nth l j) (l.take (j + 1)) = Bk.occ (Ls.nth l j) (l.take j) + 1 := by rw [Bk.take_snoc h, Bk.occ_append, Bk.occ_one, if_pos rfl]
  have h2 : Bk.occ (Ls.nth l j) l = Bk.occ (Ls.nth l j) (l.take (j + 1)) + Bk.occ (Ls.nth l j) (l.drop (j + 1)) := by rw [← Bk.occ_append, List.take_append_drop]
  omega
theorem Bk.mem_nth {l : List Int} {j : Nat} (h : j < l.length) : Ls.nth l j ∈ l := by
  have : Ls.nth l j = l[j] := by simp [Ls.nth, h]
  rw [this]
  exact List.getElem_mem h
theorem Bk.nth_take {R l : List Int} {d : Int} {n k : Nat} (j : Nat) (hR : R.length = n) (hx : ∀ x, x ∈ l → 0 ≤ x ∧ x < n) (hk : k < n) : Ls.nth (Bk.bump R d (l.take j)) k = Ls.nth R k + d * Bk.occ k (l.take j) :=
  Bk.nth_bump d _ R (fun x hxm => by rw [hR]; exact hx x (List.mem_of_mem_take hxm)) k (by rw [hR]; exact hk)

/-- The rows up to the k-th one. -/
def Bk.upto (L : Nat → List Int) (k : Nat) : Nat → List Int := fun i => if i < k then L i else []
theorem Bk.upto_zero (L : Nat → List Int) : Bk.upto L 0 = fun _ => [] := by funext i; exact if_neg (by omega)
theorem Bk.upto_succ (L : Nat → List Int) (k : Nat) : Bk.up (Bk.upto L k) k (L k) = Bk.upto L (k + 1) := by
  funext i
  unfold Bk.up Bk.upto
  by_cases e : i = k
  · rw [if_pos e, if_pos (by omega), e]
  · rw [if_neg e]
    by_cases h : i < k
    · rw [if_pos h, if_pos (by omega)]
    · rw [if_neg h, if_neg (by omega)]
theorem Bk.upto_at (L : Nat → List Int) {j k : Nat} (h : j < k) : Bk.upto L k j = L j := if_pos h
theorem Rws.frozen {w : World} {d m c : Nat} {L : Nat → List Int} {Q : Nat → Prop} (h : Rws w (.slice (some ⟨d, 0, none⟩) m c) m L Q) (j : Nat) : w.frozen? ⟨d, j, none⟩ = false := by
  rcases h with ⟨h, _⟩ | ⟨d', c', F, e, _, hr, _⟩
  · cases h
  · cases e; exact hr.frozen _
theorem Rws.head {w : World} {d m c : Nat} {L : Nat → List Int} {Q : Nat → Prop} (h : Rws w (.slice (some ⟨d, 0, none⟩) m c) m L Q) : Q d ∧ Ty w d 31 ∧ m ≤ c ∧ ∃ F, w.rowIs d 31 c F := by
  rcases h with ⟨h, _⟩ | ⟨d', c', F, e, hc, hr, hd, _⟩
  · cases h
  · cases e; exact ⟨hd, ty_row hr, hc, F, hr⟩

/-- n cells of a row, from its beginning on, hold z. -/
theorem row_cleared {b : Nat} {t : TypeId} {c : Nat} (z : Value) : ∀ (n o : Nat) (w : World) (f : Nat → Value), w.rowIs b t c f → (w.setCells b o (List.replicate n z)).rowIs b t c (fun i => if o ≤ i ∧ i < o + n then z else f i) := by
  intro n
  induction n with
  | zero =>
    intro o w f h
    exact h.congr fun i _ => by rw [if_neg (by omega)]
  | succ n ih =>
    intro o w f h
    show ((w.setCell ⟨b, o, none⟩ z).setCells b (o + 1) (List.replicate n z)).rowIs b t c _
    refine (ih (o + 1) _ _ (h.set o z)).congr fun i _ => ?_
    by_cases e : i = o
    · rw [if_neg (by omega), if_pos e, if_pos (by omega)]
    · rw [if_neg e]
      by_cases h1 : o + 1 ≤ i ∧ i < o + 1 + n
      · rw [if_pos h1, if_pos (by omega)]
      · rw [if_neg h1, if_neg (by omega)]
theorem below_cells {B b : Nat} (hb : B ≤ b) : ∀ (vs : List Value) (o : Nat) (w0 w : World), Below B w0 w → Below B w0 (w.setCells b o vs) := by
  intro vs
  induction vs with
  | nil => exact fun o w0 w h => h
  | cons v vs ih => exact fun o w0 w h => ih (o + 1) w0 _ (h.setCell (p := ⟨b, o, none⟩) hb v)
theorem block_cells {b : Nat} {j : Nat} (hj : ¬ j = b) : ∀ (vs : List Value) (o : Nat) (w : World), (w.setCells b o vs).heap[j]? = w.heap[j]? := by
  intro vs
  induction vs with
  | nil => exact fun o w => rfl
  | cons v vs ih => exact fun o w => (ih (o + 1) _).trans (Below.heap_setCell _ _ _ _ (show j ≠ b from hj))
theorem ButQ.cells {g b : Nat} {Q : Nat → Prop} {w v : World} (h : ButQ g b Q w v) {d : Nat} (hd : Q d) (vs : List Value) (o : Nat) : ButQ g b Q w (v.setCells d o vs) := by
  have b0 := below_cells (B := 0) (b := d) (Nat.zero_le _) vs o v v (Below.refl _ _)
  exact ⟨b0.os.trans h.1, b0.tape.trans h.2.1, b0.output.trans h.2.2.1, Nat.le_trans h.2.2.2.1 b0.size, fun j h0 h1 h2 h3 => by rw [block_cells (fun e => by subst e; exact h3 hd), h.2.2.2.2 j h0 h1 h2 h3]⟩
/-- Rows all of which were cleared. -/
theorem Rws.cleared {w : World} {d m : Nat} {L : Nat → List Int} {Q : Nat → Prop} (h : Rws w (.slice (some ⟨d, 0, none⟩) m m) m L Q) : Rws (w.setCells d 0 (List.replicate m (.slice none 0 0))) (.slice (some ⟨d, 0, none⟩) m m) m (fun _ => []) Q := by
  obtain ⟨hd, _, _, F, hr⟩ := h.head
  refine rws_made ((row_cleared (.slice none 0 0) m 0 w F hr).congr fun i hi => ?_) hd
  rw [if_pos (by omega)]
end Go.Proofs.Ytpifemahakbegaa
/- Package block's Fork and Clear. -/
namespace Go.Proofs.Ytpifemahakbegaa
set_option linter.unusedVariables false
set_option linter.unusedSimpArgs false
open Go.RowKit

/-- A list that lies in a row of the call's own is off the pool. -/
theorem off_own {w : World} {g b n k : Nat} {R M : List Int} {a : Option Addr} {c base : Nat} {xs : List Value} (hp : PoolAt w g b n R M) (ho : w.ownsRow base 3 1 (.slice a k c) k xs) : Off g b a := fun x ex => by
  subst ex
  have t := ty_own ho (q := x.block) rfl
  exact ⟨t.ne hp.tys.1 (by decide), t.ne hp.tys.2 (by decide)⟩

theorem zero_slices : ∀ w, (zeroValue 31).run Try.prog w = .ok (.slice none 0 0) w := by
  obtain ⟨i, hi, h1, _, _⟩ := info_parts Try.infoSlices
  intro w
  simp [zeroValue, typeInfo, hi, h1]
set_option maxRecDepth 100000 in
set_option maxHeartbeats 3200000 in
theorem fork_any (g b n T m : Nat) (R M : List Int) (L : Nat → List Int) (Q : Nat → Prop) (w : World) (hp : PoolAt w g b n R M) (h : Tab w g T m L Q) (hm : m ≤ 16) (hl : Bk.len L m ≤ 1000)
    (hx : ∀ x, x ∈ Bk.flat L m → (0 ≤ x ∧ x < n) ∧ 0 < Ls.nth R x.toNat) (hb : ∀ k, k < n → Ls.nth R k ≤ 1000) :
    Calls Try.prog 15 #[.pointer (some ⟨T, 0, none⟩)] w fun e w' => ∃ U, e = .returned (.pointer (some ⟨U, 0, none⟩)) ∧ PoolAt w' g b n (Bk.bump R 1 (Bk.flat L m)) M ∧
      Tab w' g U m L (fun q => w.heap.size ≤ q) ∧ w.heap.size ≤ U ∧ But2 g b w w' := by
  have hmk := run_make_row' (P := Try.prog) 53 31 (.slice none 0 0) 24 Try.underlying53 Try.infoSlices rfl .i64 .i64 m (by omega) (by omega)
  obtain ⟨r, c0, c1, hrw⟩ := h.cells
  have HP : Hid (PoolAt w g b n R M) := hp
  have HR : Hid (Rws w (.slice (some ⟨r, 0, none⟩) m m) m L Q) := hrw
  have HL : Hid (Bk.len L m ≤ 1000) := hl
  have HX : Hid (∀ x, x ∈ Bk.flat L m → (0 ≤ x ∧ x < n) ∧ 0 < Ls.nth R x.toNat) := hx
  have HB : Hid (∀ k, k < n → Ls.nth R k ≤ 1000) := hb
  have Tlt : T < w.heap.size := h.lt
  have HC0 : Hid (w.cell? ⟨T, 0, none⟩ = some (.pointer (some ⟨g, 0, none⟩))) := c0
  have HTy : Hid (Ty w T 64) := h.ty
  clear hp h hrw hl hx hb
  go_enter Try.func15, Try.ntmps15
  go_wp2
  go_region
  all_goals go_wp2
  obtain ⟨d, ed⟩ : ∃ d, w.heap.size = d := ⟨_, rfl⟩
  obtain ⟨u, hu⟩ : ∃ u, ((w.alloc (.cells (madeCells #[.slice none 0 0] m) 31)).alloc (.cells #[.pointer (some ⟨g, 0, none⟩), .slice (some ⟨w.heap.size, 0, none⟩) m m] 64)).drew = u := ⟨_, rfl⟩
  have UB : Hid (Below w.heap.size w u) := by rw [← hu]; exact (two_boxes _ _ _).drew
  have US : u.heap.size = d + 2 := by rw [← hu, ← ed]; simp
  have UT : Hid (u.rowIs (d + 1) 64 2 (tbc g d m)) := by
    have := World.rowIs_alloc (w.alloc (.cells (madeCells #[.slice none 0 0] m) 31)) #[.pointer (some ⟨g, 0, none⟩), .slice (some ⟨w.heap.size, 0, none⟩) m m] 64 (tbc g w.heap.size m) (by
      intro i hi
      match i, hi with
      | 0, _ => rfl
      | 1, _ => rfl)
    have h2 := this.drew
    show u.rowIs (d + 1) 64 2 (tbc g d m)
    rw [← hu, ← ed]
    simpa using h2
  have UR : Hid (Rws u (.slice (some ⟨d, 0, none⟩) m m) m (fun _ => []) (fun q => d ≤ q)) := by
    rw [← hu, ← ed]
    exact rws_made (((World.rowIs_made w _ m _).alloc _).drew) (Nat.le_refl _)
  rw [hu]
  clear hu hmk
  have ED : Hid (w.heap.size = d) := ed
  rw [ed] at Tlt ⊢
  clear ed
  go_loopw [25] (fun i wr => ∃ k : Nat, k ≤ m ∧ i = .int .i64 k ∧ Hid (Below d w wr) ∧ Hid (wr.rowIs (d + 1) 64 2 (tbc g d m)) ∧ Hid (Rws wr (.slice (some ⟨d, 0, none⟩) m m) m (Bk.upto L k) (fun q => d ≤ q))) (fun i _ => m - (intOf i).toNat)
  case atStart => exact ⟨0, Nat.zero_le _, rfl, ED.out ▸ UB.out, UT.out, by rw [Bk.upto_zero]; exact UR.out⟩
  case round =>
    obtain ⟨k, hk, rfl, B1, T1, R1⟩ := hrel
    have hsz := B1.out.size
    have dlt : d + 1 < wr.heap.size := T1.out.lt
    by_cases hlt : k < m
    · have hrk := HR.out.keep (ED.out ▸ B1.out)
      obtain ⟨d', c', A, C, e, hc, ho, hA, hn⟩ := hrk.cell hlt
      cases e
      obtain ⟨n0, en⟩ : ∃ n0, (L k).length = n0 := ⟨_, rfl⟩
      have EN : Hid ((L k).length = n0) := en
      have hn0 : n0 ≤ 1000 := by have := Bk.row_le L hlt; have := HL.out; omega
      rw [en] at hc
      have HA : Hid (Lst .i64 wr A (L k)) := hA
      have HN : Hid (A = none → C = 0) := hn
      have t1 : wr.cell? ⟨d + 1, 1, none⟩ = some (.slice (some ⟨d, 0, none⟩) m m) := T1.out.cell (show 1 < 2 by decide)
      have c1' : wr.cell? ⟨T, 1, none⟩ = some (.slice (some ⟨r, 0, none⟩) m m) := (B1.out.cell (p := ⟨T, 1, none⟩) (by show T < d; omega)).trans c1
      clear hrk hA hn ho en c1
      go_wp2
      obtain ⟨v0, V0⟩ : ∃ v0, wr.cell? ⟨d, k, none⟩ = some v0 := by obtain ⟨_, _, A0, C0, e, v0c, _⟩ := R1.out.cell hlt; cases e; exact ⟨_, v0c⟩
      have V0 : Hid (wr.cell? ⟨d, k, none⟩ = some v0) := V0
      have F0 : Hid (wr.frozen? ⟨d, k, none⟩ = false) := R1.out.frozen k
      have T0 : Hid (wr.cell? ⟨d + 1, 1, none⟩ = some (.slice (some ⟨d, 0, none⟩) m m)) := t1
      go_region_held3 (fun w' => w'.cell? ⟨d + 1, 1, none⟩ = some (.slice (some ⟨d, 0, none⟩) m m))
        (first
          | exact t1
          | exact t2
          | exact (World.cell?_setCell_other _ _ _ _ (by simp)).trans t2)
        (first | (go_at_call 34; (with_reducible refine (cloneR_any A n0 C (L k) _ (HA.out.keep ((Below.refl wr.heap.size wr).drew)) EN.out HN.out (by omega)).mono ?_); rintro e w1 ⟨v, rfl, ho, hb⟩; obtain ⟨va, vc, rfl⟩ := own_slice ho; have O1 : Hid (w1.ownsRow wr.heap.size 3 1 (.slice va n0 vc) n0 ((L k).map (Value.int .i64))) := ho; have BB : Hid (Below wr.heap.size wr w1) := ((Below.refl wr.heap.size wr).drew).trans hb; have t2 := (BB.out.cell (p := ⟨d + 1, 1, none⟩) dlt).trans T0.out; have cv := (BB.out.cell (p := ⟨d, k, none⟩) (show d < wr.heap.size by omega)).trans V0.out; have cf := (BB.out.frozen (p := ⟨d, k, none⟩) (show d < wr.heap.size by omega)).trans F0.out; clear ho hb))
      all_goals
        go_wp2
        go_roundw
        case rel =>
          have o0 : RowAt w1 (.slice va n0 vc) (L k) := by unfold RowAt; rw [EN.out]; exact own_mono O1.out (Nat.zero_le _)
          have r2 := Rws.more R1.out hlt V0.out o0 (fun x ex => .inr (O1.out.lt x ex).1) (fun q hq _ => BB.out.block q hq)
          refine ⟨k + 1, by omega, by go_num, (B1.out.trans (BB.out.mono (by omega))).setCell (p := ⟨d, k, none⟩) (Nat.le_refl _) _, ?_, ?_⟩
          · refine (T1.out.of_block (BB.out.block _ dlt)).of_block (Below.heap_setCell _ _ _ _ (show d + 1 ≠ d by omega))
          · rw [Bk.upto_succ] at r2
            exact r2.mono fun q _ hq => by omega
        case measure => simp [intOf]; omega
    · have ek : k = m := by omega
      subst ek
      have TU : Hid (Tab wr g (d + 1) k L (fun q => d ≤ q)) := ⟨d, T1.out, R1.out.congr fun j hj => Bk.upto_at L hj⟩
      obtain ⟨N, eN⟩ : ∃ N, Bk.len L k = N := ⟨_, rfl⟩
      have EN : Hid (Bk.len L k = N) := eN
      have hN : N ≤ 1000 := by rw [← eN]; exact HL.out
      have hc0 : wr.cell? ⟨T, 0, none⟩ = some (.pointer (some ⟨g, 0, none⟩)) := (B1.out.cell (p := ⟨T, 0, none⟩) (by show T < d; omega)).trans HC0.out
      have PW : Hid (PoolAt wr g b n R M) := HP.out.keep (ED.out ▸ B1.out)
      clear eN c0 c1
      go_wp2_with (go_at_call 12; refine (slots_any' g (d + 1) k N L _ _ TU.out (by omega) EN.out (by omega)).mono ?_; rintro e w1 ⟨a, c, rfl, ho, hA, hb⟩; have O1 : Hid (w1.ownsRow wr.heap.size 3 1 (.slice a N c) N ((Bk.flat L k).map (Value.int .i64))) := ho; have A1 : Hid (Lst .i64 w1 a (Bk.flat L k)) := hA; have BB : Hid (Below wr.heap.size wr w1) := hb; clear ho hA hb)
      have OFF : Hid (Off g b a) := off_own (PW.out.keep BB.out) O1.out
      have P1 : Hid (PoolAt w1 g b n R M) := PW.out.keep BB.out
      have c2 : w1.cell? ⟨T, 0, none⟩ = some (.pointer (some ⟨g, 0, none⟩)) := (BB.out.cell (p := ⟨T, 0, none⟩) (by show T < wr.heap.size; omega)).trans hc0
      have C2 : Hid (w1.cell? ⟨T, 0, none⟩ = some (.pointer (some ⟨g, 0, none⟩))) := c2
      have T1g : Hid (¬ T = g ∧ ¬ T = b ∧ T < w1.heap.size) := ⟨HTy.out.ne HP.out.tys.1 (by decide), HTy.out.ne HP.out.tys.2 (by decide), by have := BB.out.size; omega⟩
      have LN : Hid ((Bk.flat L k).length = N) := EN.out
      have RN : Hid (R.length = n) := HP.out.nums.2.1
      have BW : Hid (But2 g b w w1) := But2.of_below ((ED.out ▸ B1.out : Below w.heap.size w wr).trans (BB.out.mono (by have := B1.out.size; omega))) (by have := HP.out.lt; omega)
      have TU1 : Hid (Tab w1 g (d + 1) k L (fun q => d ≤ q)) := TU.out.keep BB.out
      clear hc0 c2 dlt hsz
      go_loopw [42] (fun i wq => ∃ j : Nat, j ≤ N ∧ i = .int .i64 j ∧ Hid (PoolAt wq g b n (Bk.bump R 1 ((Bk.flat L k).take j)) M) ∧ Hid (But2 g b w1 wq)) (fun i _ => N - (intOf i).toNat)
      case atStart => exact ⟨0, Nat.zero_le _, rfl, P1.out, But2.refl _ _ _⟩
      case round =>
        obtain ⟨j, hj, rfl, PQ, BQ⟩ := hrel
        by_cases hlt2 : j < N
        · have hA := BQ.out.lst A1.out OFF.out
          obtain ⟨b1, o1, e, hg⟩ := hA.get (show j < (Bk.flat L k).length by rw [LN.out]; exact hlt2)
          subst e
          have s0 := hg j (by rw [LN.out]; exact hlt2)
          have hx := HX.out _ (Bk.mem_nth (show j < (Bk.flat L k).length by rw [LN.out]; exact hlt2))
          obtain ⟨t, et⟩ : ∃ t : Nat, Ls.nth (Bk.flat L k) j = t := ⟨(Ls.nth (Bk.flat L k) j).toNat, by omega⟩
          have ET : Hid (Ls.nth (Bk.flat L k) j = t) := et
          rw [et] at s0 hx
          have htn : t < n := by omega
          have hx2 : 0 < Ls.nth R t := by simpa using hx.2
          have hbr := HB.out t htn
          have hcnt := Bk.nth_take (d := 1) (l := Bk.flat L k) j RN.out (fun x hxm => (HX.out x hxm).1) htn
          have hol := Bk.occ_le t ((Bk.flat L k).take j)
          have htl : ((Bk.flat L k).take j).length ≤ N := by rw [List.length_take, LN.out]; omega
          obtain ⟨x, ex⟩ : ∃ x, Ls.nth (Bk.bump R 1 ((Bk.flat L k).take j)) t = x := ⟨_, rfl⟩
          have EX : Hid (Ls.nth (Bk.bump R 1 ((Bk.flat L k).take j)) t = x) := ex
          rw [ex] at hcnt
          have x0 : 0 < x := by rw [hcnt]; omega
          have x1 : x < 1000000 := by rw [hcnt]; omega
          have c3 : wr.cell? ⟨T, 0, none⟩ = some (.pointer (some ⟨g, 0, none⟩)) := by
            rw [World.cell?_of_block (a := ⟨T, 0, none⟩) (BQ.out.2 T T1g.out.2.2 T1g.out.1 T1g.out.2.1)]; exact C2.out
          clear hA hg hx hbr hcnt hol htl et ex hx2
          go_wp2_with (go_at_call 35; refine (hold_some g b n t x _ M _ PQ.out htn EX.out x0 x1).mono ?_; rintro e w3 ⟨rfl, hp3, hb3⟩; have P3 : Hid (PoolAt w3 g b n ((Bk.bump R 1 ((Bk.flat L k).take j)).set t (x + 1)) M) := hp3; have B3 : Hid (But2 g b wr w3) := hb3; clear hp3 hb3)
          go_roundw
          case rel => exact ⟨j + 1, by omega, by go_num, by rw [Bk.bump_take (by rw [LN.out]; exact hlt2) ET.out EX.out]; exact P3.out, BQ.out.trans B3.out⟩
          case measure => simp [intOf]; omega
        · have ej : j = N := by omega
          subst ej
          go_wp2
          go_ret
          refine ⟨d + 1, rfl, ?_, ?_, by have := ED.out; omega, BW.out.trans BQ.out⟩
          · have := PQ.out
            rw [List.take_of_length_le (by rw [LN.out]; exact Nat.le_refl _)] at this
            exact this
          · exact (P1.out.tab BQ.out TU1.out).mono fun q _ hq => by have := ED.out; omega

set_option maxRecDepth 100000 in
set_option maxHeartbeats 3200000 in
theorem clear_any (g b n T m : Nat) (R M : List Int) (L : Nat → List Int) (Q : Nat → Prop) (w : World) (hp : PoolAt w g b n R M) (h : Tab w g T m L Q) (hm : m ≤ 16) (hl : Bk.len L m ≤ 1000)
    (hx : ∀ x, x ∈ Bk.flat L m → 0 ≤ x ∧ x < n) (ho : ∀ k : Nat, k < n → (Bk.occ k (Bk.flat L m) : Int) ≤ Ls.nth R k) (hb : ∀ k, k < n → Ls.nth R k ≤ 1000) :
    Calls Try.prog 11 #[.pointer (some ⟨T, 0, none⟩)] w fun e w' => e = .returned (.tuple #[]) ∧ PoolAt w' g b n (Bk.bump R (-1) (Bk.flat L m)) M ∧
      Tab w' g T m (fun _ => []) Q ∧ ButQ g b Q w w' := by
  obtain ⟨r, c0, c1, hrw⟩ := h.cells
  have HP : Hid (PoolAt w g b n R M) := hp
  have H : Hid (Tab w g T m L Q) := h
  have HX : Hid (∀ x, x ∈ Bk.flat L m → 0 ≤ x ∧ x < n) := hx
  have HB : Hid (∀ k, k < n → Ls.nth R k ≤ 1000) := hb
  have HOC : Hid (∀ k : Nat, k < n → (Bk.occ k (Bk.flat L m) : Int) ≤ Ls.nth R k) := ho
  have Tlt : T < w.heap.size := h.lt
  have HC0 : Hid (w.cell? ⟨T, 0, none⟩ = some (.pointer (some ⟨g, 0, none⟩))) := c0
  have HTn : Hid (¬ T = g ∧ ¬ T = b) := ⟨h.ty.ne hp.tys.1 (by decide), h.ty.ne hp.tys.2 (by decide)⟩
  obtain ⟨N, eN⟩ : ∃ N, Bk.len L m = N := ⟨_, rfl⟩
  have EN : Hid (Bk.len L m = N) := eN
  have hN : N ≤ 1000 := by rw [← eN]; exact hl
  clear hp h hrw hl hx ho hb eN c0 c1
  go_enter Try.func11, Try.ntmps11
  go_wp2_with (go_at_call 12; refine (slots_any' g T m N L _ _ H.out (by omega) EN.out (by omega)).mono ?_; rintro e w1 ⟨a, c, rfl, ho, hA, hb⟩; have O1 : Hid (w1.ownsRow w.heap.size 3 1 (.slice a N c) N ((Bk.flat L m).map (Value.int .i64))) := ho; have A1 : Hid (Lst .i64 w1 a (Bk.flat L m)) := hA; have BB : Hid (Below w.heap.size w w1) := hb; clear ho hA hb)
  have P1 : Hid (PoolAt w1 g b n R M) := HP.out.keep BB.out
  have OFF : Hid (Off g b a) := off_own P1.out O1.out
  have T1 : Hid (Tab w1 g T m L Q) := H.out.keep BB.out
  have C2 : Hid (w1.cell? ⟨T, 0, none⟩ = some (.pointer (some ⟨g, 0, none⟩))) := (BB.out.cell (p := ⟨T, 0, none⟩) Tlt).trans HC0.out
  have Tl1 : Hid (T < w1.heap.size) := by have := BB.out.size; show T < w1.heap.size; omega
  have LN : Hid ((Bk.flat L m).length = N) := EN.out
  have RN : Hid (R.length = n) := HP.out.nums.2.1
  clear Tlt
  go_loopw [7] (fun i wq => ∃ j : Nat, j ≤ N ∧ i = .int .i64 j ∧ Hid (PoolAt wq g b n (Bk.bump R (-1) ((Bk.flat L m).take j)) M) ∧ Hid (But2 g b w1 wq)) (fun i _ => N - (intOf i).toNat)
  case atStart => exact ⟨0, Nat.zero_le _, rfl, P1.out, But2.refl _ _ _⟩
  case round =>
    obtain ⟨j, hj, rfl, PQ, BQ⟩ := hrel
    by_cases hlt2 : j < N
    · have hA := BQ.out.lst A1.out OFF.out
      obtain ⟨b1, o1, e, hg⟩ := hA.get (show j < (Bk.flat L m).length by rw [LN.out]; exact hlt2)
      subst e
      have s0 := hg j (by rw [LN.out]; exact hlt2)
      have hx := HX.out _ (Bk.mem_nth (show j < (Bk.flat L m).length by rw [LN.out]; exact hlt2))
      obtain ⟨t, et⟩ : ∃ t : Nat, Ls.nth (Bk.flat L m) j = t := ⟨(Ls.nth (Bk.flat L m) j).toNat, by omega⟩
      have ET : Hid (Ls.nth (Bk.flat L m) j = t) := et
      have hot := Bk.occ_take (show j < (Bk.flat L m).length by rw [LN.out]; exact hlt2)
      rw [et] at s0 hx hot
      have htn : t < n := by omega
      have hbr := HB.out t htn
      have hoc := HOC.out t htn
      have hcnt := Bk.nth_take (d := -1) (l := Bk.flat L m) j RN.out HX.out htn
      obtain ⟨x, ex⟩ : ∃ x, Ls.nth (Bk.bump R (-1) ((Bk.flat L m).take j)) t = x := ⟨_, rfl⟩
      have EX : Hid (Ls.nth (Bk.bump R (-1) ((Bk.flat L m).take j)) t = x) := ex
      rw [ex] at hcnt
      have x0 : 0 < x := by rw [hcnt]; omega
      have x1 : x < 1000000 := by rw [hcnt]; omega
      have c3 : wr.cell? ⟨T, 0, none⟩ = some (.pointer (some ⟨g, 0, none⟩)) := by
        rw [World.cell?_of_block (a := ⟨T, 0, none⟩) (BQ.out.2 T Tl1.out HTn.out.1 HTn.out.2)]; exact C2.out
      clear hA hg hx hbr hcnt hot hoc et ex
      by_cases xo : x = 1
      · have XO : Hid (x = 1) := xo
        clear xo x0 x1
        go_wp2_with (go_at_call 30; refine (drop_last g b n t _ M _ PQ.out htn (EX.out.trans XO.out)).mono ?_; rintro e w3 ⟨rfl, hp3, hb3⟩; have P3 : Hid (PoolAt w3 g b n ((Bk.bump R (-1) ((Bk.flat L m).take j)).set t 0) M) := hp3; have B3 : Hid (But2 g b wr w3) := hb3; clear hp3 hb3)
        go_roundw
        case rel =>
          refine ⟨j + 1, by omega, by go_num, ?_, BQ.out.trans B3.out⟩
          rw [Bk.bump_take (by rw [LN.out]; exact hlt2) ET.out EX.out, XO.out]
          exact P3.out
        case measure => simp [intOf]; omega
      · have xm : 1 < x := by omega
        clear xo x0
        go_wp2_with (go_at_call 30; refine (drop_more g b n t x _ M _ PQ.out htn EX.out xm x1).mono ?_; rintro e w3 ⟨rfl, hp3, hb3⟩; have P3 : Hid (PoolAt w3 g b n ((Bk.bump R (-1) ((Bk.flat L m).take j)).set t (x - 1)) M) := hp3; have B3 : Hid (But2 g b wr w3) := hb3; clear hp3 hb3)
        go_roundw
        case rel =>
          refine ⟨j + 1, by omega, by go_num, ?_, BQ.out.trans B3.out⟩
          rw [Bk.bump_take (by rw [LN.out]; exact hlt2) ET.out EX.out, show x + -1 = x - 1 by omega]
          exact P3.out
        case measure => simp [intOf]; omega
    · have ej : j = N := by omega
      subst ej
      have PF : Hid (PoolAt wr g b n (Bk.bump R (-1) (Bk.flat L m)) M) := by
        have := PQ.out
        rw [List.take_of_length_le (by rw [LN.out]; exact Nat.le_refl _)] at this
        exact this
      have TF : Hid (Tab wr g T m L Q) := P1.out.tab BQ.out T1.out
      obtain ⟨r, c0, c1, hrw⟩ := TF.out.cells
      have HT : Hid (wr.rowIs T 64 2 (tbc g r m)) := by
        obtain ⟨r', h1, _⟩ := TF.out
        have := h1.cell (show 1 < 2 by decide)
        rw [c1] at this
        cases this
        exact h1
      have HW : Hid (Rws wr (.slice (some ⟨r, 0, none⟩) m m) m L Q) := hrw
      obtain ⟨hQr, tr, _, F, hr⟩ := hrw.head
      have BW : Hid (ButQ g b Q w wr) := (ButQ.of_below BB.out).trans (ButQ.of_but2 BQ.out)
      have TRn : Hid (¬ T = r ∧ Ty wr r 31 ∧ Q r) := ⟨(ty_row HT.out).ne tr (by decide), tr, hQr⟩
      by_cases hm0 : m = 0
      · subst hm0
        have hclr : ∀ ty, (Builtin.clear_ #[53] ty #[.slice (some ⟨r, 0, none⟩) 0 0]).run Try.prog wr = .ok (.tuple #[]) wr := fun ty => by simp [Builtin.clear_, run_underlying Try.underlying53]
        clear hrw hQr tr hr c0
        go_wp2
        go_end0
        exact ⟨rfl, PF.out, ⟨r, HT.out, HW.out.congr fun j hj => by omega⟩, BW.out⟩
      · have hclr : ∀ ty, (Builtin.clear_ #[53] ty #[.slice (some ⟨r, 0, none⟩) m m]).run Try.prog wr = .ok (.tuple #[]) (wr.setCells r 0 (List.replicate m (.slice none 0 0))) := fun ty =>
          Lib.run_clear_slice wr 53 31 ty (.slice none 0 0) Try.underlying53 (zero_slices) rfl rfl r 0 m m (by omega) (fun j hj => by rw [Nat.zero_add, hr.cell hj]; rfl) (fun j hj => hr.frozen _)
        clear hrw hQr tr hr c0
        go_wp2
        go_end0
        refine ⟨rfl, ?_, ⟨r, ?_, HW.out.cleared⟩, BW.out.cells TRn.out.2.2 _ _⟩
        · refine PF.out.stand fun j hj => ?_
          refine block_cells ?_ _ _ _
          rcases hj with q | q | q <;> exact q.ne TRn.out.2.1 (by decide)
        · exact HT.out.of_block (block_cells TRn.out.1 _ _ _)
end Go.Proofs.Ytpifemahakbegaa
/- The law's own helpers: rows copied, counts changed for all entries, a page with a mark. -/
namespace Go.Proofs.Ytpifemahakbegaa
set_option linter.unusedVariables false
set_option linter.unusedSimpArgs false
open Go.RowKit

theorem made_b (n : Int) (w : World) :
    Calls Try.prog 17 #[.int .i64 n] w fun e w' => ∃ q, e = .returned (.pointer (some ⟨q, 0, none⟩)) ∧ PgM w' q (Po.mk n) ∧ w.heap.size ≤ q ∧ Below w.heap.size w w' := by
  have hb := bits_mark n
  obtain ⟨mk, emk⟩ : ∃ m, Po.mk n = m := ⟨_, rfl⟩
  have bd := Po.mk_bd n
  rw [emk] at bd hb ⊢
  clear emk
  go_enter Try.func17, Try.ntmps17
  go_wp2_with fail
  refine (quantP_ok 2 2 1 1 3 3 0 0 mk _ _ _ _ [[1]] [[2]] _ (Or.inl ⟨rfl, rfl⟩) (Or.inl ⟨rfl, rfl⟩)
    ((tbl_at (x := [1]) (heap_lit (by simp)) ((lst_lit1 [1] (by simp)).keep (box_below _ _)) (by decide)).keep (two_boxes _ _ _))
    (tbl_at (x := [2]) (heap_lit (by simp)) ((lst_lit1 [2] (by simp)).keep (box_below _ _)) (by decide))
    (in32_one 1 (by decide)) (in32_one 2 (by decide)) (by unfold Pg.rightH; simp [Ls.nth, Gp.okB]; omega) (by decide) (by decide)).mono ?_
  rintro e w' ⟨p, rfl, hp, hpg, hbel⟩
  have HE : Hid (PgM w' p mk ∧ w.heap.size ≤ p ∧ Below w.heap.size w w') := ⟨hpg.mark, by simp at hp; omega, below_then (below_then (two_boxes _ _ _) (two_boxes _ _ _)) hbel⟩
  clear hp hpg hbel
  go_wp2
  go_ret
  exact ⟨p, rfl, HE.out⟩

/-- Rows that were appended one by one, all of them from block B on. -/
def Rwl (w : World) (B : Nat) (v : Value) (k : Nat) (L : Nat → List Int) : Prop :=
  ∃ F : Nat → Value, w.ownsRow B 31 1 v k ((List.range k).map F) ∧ (∀ j, j < k → RowAt w (F j) (L j)) ∧ (∀ j, j < k → ∀ q, (F j).ownBlock = some q → B ≤ q) ∧
    ∀ i j q, i < k → j < k → (F i).ownBlock = some q → (F j).ownBlock = some q → i = j
theorem rwl_nil (w : World) (B : Nat) (L : Nat → List Int) : Rwl w B (.slice none 0 0) 0 L := ⟨fun _ => .slice none 0 0, World.ownsRow_nil _ _ _ _, fun j h => by omega, fun j h => by omega, fun i j q h => by omega⟩
theorem Rwl.own {w : World} {B : Nat} {v : Value} {k : Nat} {L : Nat → List Int} (h : Rwl w B v k L) : ∃ xs, w.ownsRow B 31 1 v k xs ∧ xs.length = k := by
  obtain ⟨F, h1, _⟩ := h
  exact ⟨_, h1, by simp⟩
theorem Rwl.rws {w : World} {B : Nat} {v : Value} {k : Nat} {L : Nat → List Int} (h : Rwl w B v k L) : Rws w v k L (fun q => B ≤ q) := by
  obtain ⟨F, h1, h2, h3, h4⟩ := h
  rcases h1.2 with ⟨e, e0⟩ | ⟨g, cap, cur, e, hB, hg, hn, hm, hs, ht⟩
  · exact .inl ⟨e, e0⟩
  · subst e
    refine .inr ⟨g, cap, fun i => cur[i]!, rfl, hn, ⟨cur, hg, by omega, fun i hi => by simp [show i < cur.size by omega]⟩, hB, ?_, ?_, ?_⟩
    · exact fun j hj => by show RowAt w cur[j]! (L j); rw [at_cur j hj hs hn ht]; exact h2 j hj
    · exact fun j hj => by show ∀ q, (cur[j]!).ownBlock = some q → B ≤ q; rw [at_cur j hj hs hn ht]; exact h3 j hj
    · exact fun i j q hi hj => by
        show (cur[i]!).ownBlock = some q → (cur[j]!).ownBlock = some q → i = j
        rw [at_cur i hi hs hn ht, at_cur j hj hs hn ht]; exact h4 i j q hi hj
where
  at_cur {F : Nat → Value} {k cap : Nat} {cur : Array Value} (j : Nat) (hj : j < k) (hs : cur.size = cap * 1) (hn : k ≤ cap) (ht : cur.toList.take (k * 1) = (List.range k).map F) : cur[j]! = F j := by
    have h1 : (cur.toList.take (k * 1))[j]? = some (F j) := by rw [ht]; simp [hj]
    rw [List.getElem?_take_of_lt (by omega)] at h1
    have h2 : cur[j]? = some (F j) := by simpa using h1
    simp [getElem!_def, h2]
/-- One row more: w1 behind the row's own append, w2 behind the append of the row. -/
theorem Rwl.snoc {w w1 w2 : World} {B : Nat} {v v1 v2 : Value} {k : Nat} {L : Nat → List Int} {o : Obj} {xs : List Value} (h : Rwl w B v k L) (hB : B ≤ w.heap.size) (b1 : Below w.heap.size w w1) (o1 : w1.ownsRow w.heap.size 3 1 v1 (L k).length ((L k).map (Value.int .i64)))
    (hx : w.ownsRow B 31 1 v k xs) (o2 : w2.ownsRow B 31 1 v2 (k + 1) (xs ++ [v1])) (hg : (w1.alloc o).grownBy w2 v.ownBlock) : Rwl w2 B v2 (k + 1) L := by
  obtain ⟨F, h1, h2, h3, h4⟩ := h
  have ex : xs = (List.range k).map F := by
    have e1 := h1
    rcases h1.2 with ⟨e, e0⟩ | ⟨g, cap, cur, e, _, hg', _, _, _, ht⟩
    · have l1 := hx.1
      have l2 := h1.1
      rw [e0] at l1 l2 ⊢
      rw [List.length_eq_zero_iff.1 (show xs.length = 0 by omega)]
      rfl
    · subst e
      rcases hx.2 with ⟨e, _⟩ | ⟨g2, cap2, cur2, e, _, hg2, _, _, _, ht2⟩
      · cases e
      · cases e
        rw [hg'] at hg2
        cases hg2
        rw [← ht, ← ht2]
  have tv : ∀ q, v.ownBlock = some q → Ty w q 31 := fun q hq => ty_own hx hq
  have stand : ∀ q, Ty w q 3 → w2.heap[q]? = w.heap[q]? := fun q ht => by
    rw [hg.block q (by simp; have := ht.lt; have := b1.size; omega) (fun e => ht.ne (tv q e.symm) (by decide) rfl)]
    rw [((Below.refl w1.heap.size w1).alloc (Nat.le_refl _) o).block q (by have := ht.lt; have := b1.size; omega)]
    exact b1.block q ht.lt
  have r1 : RowAt w1 v1 (L k) := own_mono o1 (Nat.zero_le _)
  have r2 : RowAt w2 v1 (L k) := r1.of_block fun q hq => by
    have t1 := ty_own o1 hq
    have l1 := (o1.lt q hq).1
    rw [hg.block q (by simp; have := t1.lt; omega) (fun e => by have := (tv q e.symm).lt; omega)]
    exact ((Below.refl w1.heap.size w1).alloc (Nat.le_refl _) o).block q t1.lt
  refine ⟨fun i => if i = k then v1 else F i, ?_, fun j hj => ?_, fun j hj q hq => ?_, fun i j q hi hj ei ej => ?_⟩
  · rw [ex] at o2
    have e : (List.range (k + 1)).map (fun i => if i = k then v1 else F i) = (List.range k).map F ++ [v1] := by
      rw [List.range_succ, List.map_append]
      congr 1
      · exact List.map_congr_left fun i hi => by rw [List.mem_range] at hi; rw [if_neg (by omega)]
      · simp
    rw [e]
    exact o2
  · show RowAt w2 (if j = k then v1 else F j) (L j)
    by_cases e : j = k
    · rw [if_pos e, e]; exact r2
    · rw [if_neg e]
      exact (h2 j (by omega)).of_block fun q hq => stand q (ty_own (h2 j (by omega)) hq)
  · have hq : (if j = k then v1 else F j).ownBlock = some q := hq
    by_cases e : j = k
    · rw [if_pos e] at hq
      have := (o1.lt q hq).1
      omega
    · rw [if_neg e] at hq
      exact h3 j (by omega) q hq
  · have ei : (if i = k then v1 else F i).ownBlock = some q := ei
    have ej : (if j = k then v1 else F j).ownBlock = some q := ej
    have far : ∀ t, t < k → (F t).ownBlock = some q → v1.ownBlock = some q → False := fun t ht e1 e2 => by
      have h5 := (o1.lt q e2).1
      have h6 := (ty_own (h2 t ht) e1).lt
      omega
    by_cases e : i = k
    · by_cases e2 : j = k
      · rw [e, e2]
      · rw [if_pos e] at ei
        rw [if_neg e2] at ej
        exact (far j (by omega) ej ei).elim
    · rw [if_neg e] at ei
      by_cases e2 : j = k
      · rw [if_pos e2] at ej
        exact (far i (by omega) ei ej).elim
      · rw [if_neg e2] at ej
        exact h4 i j q (by omega) (by omega) ei ej

theorem own_cell {w : World} {base : Nat} {t : TypeId} {v : Value} {n : Nat} {xs : List Value} (h : w.ownsRow base t 1 v n xs) : v.oneCell' = true := by
  obtain ⟨a, c, rfl⟩ := own_slice h
  rfl
set_option maxRecDepth 100000 in
set_option maxHeartbeats 1600000 in
theorem copied_any (v : Value) (m : Nat) (L : Nat → List Int) (Q : Nat → Prop) (w : World) (h : Rws w v m L Q) (hm : m ≤ 16) (hl : Bk.len L m ≤ 100000) :
    Calls Try.prog 27 #[v] w fun e w' => ∃ u, e = .returned u ∧ Rws w' u m L (fun q => w.heap.size ≤ q) ∧ Below w.heap.size w w' := by
  obtain ⟨i1, hi10, hi11, hi12, hi13⟩ := info_parts Try.infoSlices
  obtain ⟨a, c, rfl⟩ := h.slice
  have HR : Hid (Rws w (.slice a m c) m L Q) := h
  have HT : Hid (Bk.len L m ≤ 100000) := hl
  clear h hl
  go_enter Try.func27, Try.ntmps27
  go_wp2
  go_loopw [3, 8] (fun v i wq => ∃ k : Nat, k ≤ m ∧ i = .int .i64 k ∧ Hid (Rwl wq w.heap.size v k L) ∧ Hid (Below w.heap.size w wq)) (fun _ i _ => m - (intOf i).toNat)
  case atStart => exact ⟨0, Nat.zero_le _, rfl, rwl_nil _ _ _, Below.refl _ _⟩
  case round =>
    obtain ⟨k, hk, rfl, RL, B0⟩ := hrel
    by_cases hlt : k < m
    · obtain ⟨d, c', A, C, e, hc, ho, hA, hn⟩ := (HR.out.keep B0.out).cell hlt
      cases e
      have hs := B0.out.size
      obtain ⟨xs, hxs, lxs⟩ := RL.out.own
      have XS : Hid (wr.ownsRow w.heap.size 31 1 u3 k xs) := hxs
      have HA : Hid (Lst .i64 wr A (L k)) := hA
      have HN : Hid (A = none → C = 0) := hn
      have hkl := Bk.row_le L hlt
      have hT := HT.out
      clear hxs lxs hA hn ho
      go_wp2_with (first
        | (at_builtin; refine wpList_append_lst rfl _ _ 31 rfl wr.heap.size 3 .i64 8 Try.underlying31 Try.infoIntG _ 0 [] (by rfl) (World.ownsRow_made wr #[] 0 (Nat.le_refl _) (by decide) rfl) A (L k) C (by rfl) (HA.out.keep (box_below _ _)) HN.out (by unfold maxLen; omega) (by omega) (by simp) ?_; intro v1 u1 ho1 hg1; simp only [Nat.zero_add, List.nil_append] at ho1; obtain ⟨va, vc, rfl⟩ := own_slice ho1; have O1 : Hid (u1.ownsRow wr.heap.size 3 1 (.slice va (L k).length vc) (L k).length ((L k).map (Value.int .i64))) := ho1; have B1 : Hid (Below wr.heap.size wr u1) := (box_below _ _).grown hg1 (by simp) (by intro k hk; cases hk; exact Nat.le_refl _); clear ho1 hg1)
        | (at_builtin; refine wpList_append_lies _ rfl _ _ _ rfl w.heap.size 31 i1 _ 1 24 Try.underlying53 hi10 hi11 hi12 hi13 rfl (by omega) _ k xs (by rfl) ((own_at XS.out (fun q hq => B1.out.block q (XS.out.lt q hq).2)).alloc _) ⟨u1.heap.size, 0, none⟩ 1 1 [.slice va (L k).length vc] (by rfl) (by rfl) (World.news_of_block (cs := #[.slice va (L k).length vc]) (t := 31) (fr := (0, 0)) (heap_alloc_new u1 _)) (fun x hx => by simp at hx; subst hx; exact own_cell O1.out) (by omega) (by unfold maxLen; omega) (by omega) (by have := B1.out.size; simp; omega) (u1.heap.size + 1) (by simp) ?_; intro gg cap w1 hown1 hgrow hat hlt1; have O2 : Hid (w1.ownsRow w.heap.size 31 1 (.slice (some ⟨gg, 0, none⟩) (k + 1) cap) (k + 1) (xs ++ [.slice va (L k).length vc])) := hown1; have G2 : Hid ((u1.alloc (.cells #[.slice va (L k).length vc] 31)).grownBy w1 u3.ownBlock) := hgrow; clear hown1 hgrow hat))
      go_roundw
      case rel =>
        refine ⟨k + 1, by omega, by go_num, Rwl.snoc RL.out hs B1.out O1.out XS.out O2.out G2.out, ?_⟩
        exact ((B0.out.trans (B1.out.mono hs)).alloc (by have := B1.out.size; omega) _).grown G2.out (by have := B1.out.size; simp; omega) (fun q hq => (XS.out.lt q hq).1)
      case measure => simp [intOf]; omega
    · have ek : k = m := by omega
      subst ek
      go_wp2
      go_ret
      exact ⟨_, rfl, RL.out.rws, B0.out⟩

/-- The five cells of a play. -/
def plc (g : Nat) (s1 s2 va vr : Value) (i : Nat) : Value := if i = 0 then .pointer (some ⟨g, 0, none⟩) else if i = 1 then s1 else if i = 2 then s2 else if i = 3 then va else vr
theorem plc_set1 (g : Nat) (s1 s2 va vr v : Value) (j : Nat) (hj : j < 5) : (if j = 1 then v else plc g s1 s2 va vr j) = plc g v s2 va vr j := by
  match j, hj with
  | 0, _ => rfl
  | 1, _ => rfl
  | 2, _ => rfl
  | 3, _ => rfl
  | 4, _ => rfl
theorem plc_set2 (g : Nat) (s1 s2 va vr v : Value) (j : Nat) (hj : j < 5) : (if j = 2 then v else plc g s1 s2 va vr j) = plc g s1 v va vr j := by
  match j, hj with
  | 0, _ => rfl
  | 1, _ => rfl
  | 2, _ => rfl
  | 3, _ => rfl
  | 4, _ => rfl
theorem plc_set3 (g : Nat) (s1 s2 va vr v : Value) (j : Nat) (hj : j < 5) : (if j = 3 then v else plc g s1 s2 va vr j) = plc g s1 s2 v vr j := by
  match j, hj with
  | 0, _ => rfl
  | 1, _ => rfl
  | 2, _ => rfl
  | 3, _ => rfl
  | 4, _ => rfl
theorem plc_set4 (g : Nat) (s1 s2 va vr v : Value) (j : Nat) (hj : j < 5) : (if j = 4 then v else plc g s1 s2 va vr j) = plc g s1 s2 va v j := by
  match j, hj with
  | 0, _ => rfl
  | 1, _ => rfl
  | 2, _ => rfl
  | 3, _ => rfl
  | 4, _ => rfl
theorem pl_cells {w : World} {P g : Nat} {s1 s2 va vr : Value} (h : w.rowIs P 37 5 (plc g s1 s2 va vr)) :
    (w.cell? ⟨P, 0, none⟩ = some (.pointer (some ⟨g, 0, none⟩)) ∧ w.cell? ⟨P, 1, none⟩ = some s1 ∧ w.cell? ⟨P, 2, none⟩ = some s2 ∧ w.cell? ⟨P, 3, none⟩ = some va ∧ w.cell? ⟨P, 4, none⟩ = some vr) ∧ ∀ i, w.frozen? ⟨P, i, none⟩ = false :=
  ⟨⟨h.cell (show 0 < 5 by decide), h.cell (show 1 < 5 by decide), h.cell (show 2 < 5 by decide), h.cell (show 3 < 5 by decide), h.cell (show 4 < 5 by decide)⟩, fun i => h.frozen i⟩
/-- What stands where one block alone is written. -/
def ButP (P : Nat) (w w' : World) : Prop := ButQ P P (fun _ => False) w w'
theorem ButP.refl (P : Nat) (w : World) : ButP P w w := ButQ.refl _ _ _ _
theorem ButP.put {P : Nat} {w v : World} (h : ButP P w v) (o : Nat) (y : Value) : ButP P w (v.setCell ⟨P, o, none⟩ y) := by
  have b0 := (Below.refl 0 v).setCell (p := ⟨P, o, none⟩) (Nat.zero_le _) y
  exact ⟨b0.os.trans h.1, b0.tape.trans h.2.1, b0.output.trans h.2.2.1, Nat.le_trans h.2.2.2.1 b0.size, fun j h0 h1 h2 h3 => by rw [Below.heap_setCell _ _ _ _ (show j ≠ P from h1)]; exact h.2.2.2.2 j h0 h1 h2 h3⟩
theorem ButP.lst {P : Nat} {w v : World} (h : ButP P w v) {k : IntKind} {a : Option Addr} {l : List Int} (hl : Lst k w a l) (hp : ∀ x, a = some x → ¬ x.block = P) : Lst k v a l := fun i hi => by
  obtain ⟨c, o, e, hc⟩ := hl i hi
  refine ⟨c, o, e, ?_⟩
  rw [World.cell?_of_block (w := w) (h.block (World.block_lt_of_cell? w _ hc) (show ¬ c = P from hp _ e) (show ¬ c = P from hp _ e) id)]
  exact hc
theorem ButP.rws {P : Nat} {w w' : World} (hb : ButP P w w') {t : TypeId} (ht : Ty w P t) (e1 : ¬ t = 31) (e2 : ¬ t = 3) {v : Value} {m : Nat} {L : Nat → List Int} {Q : Nat → Prop} (hr : Rws w v m L Q) : Rws w' v m L Q :=
  hr.stand fun q _ hq => by
    have n : ¬ q = P := by rcases hq with k | k; exact fun e => k.ne ht (fun e => e1 e.symm) e; exact fun e => k.ne ht (fun e => e2 e.symm) e
    exact hb.block (by rcases hq with k | k <;> exact k.lt) n n id

/-- Each entry's slot can be changed when its turn comes. -/
def Turns (n N : Nat) (R l : List Int) (d : Int) : Prop := ∀ j, j < N → ∃ t x, t < n ∧ Ls.nth l j = (t : Int) ∧ Ls.nth (Bk.bump R d (l.take j)) t = x ∧ 0 < x ∧ x < 900000
set_option maxRecDepth 100000 in
set_option maxHeartbeats 1600000 in
theorem change_any (P g m n : Nat) (v : Value) (a1 : Option Addr) (c1 : Nat) (s2 va vr : Value) (d : Int) (R : List Int) (L : Nat → List Int) (Q : Nat → Prop) (w : World) (hP : w.rowIs P 37 5 (plc g (.slice a1 n c1) s2 va vr)) (h : Rws w v m L Q)
    (hl : Lst .i64 w a1 R) (hn : R.length = n) (hc : a1 = none → c1 = 0) (h2 : ∃ a2 n2 c2, s2 = .slice a2 n2 c2) (hm : m ≤ 16) (hn2 : n ≤ 16384) (hN : Bk.len L m ≤ 1000) (hd : d = 1 ∨ d = -1) (ht : Turns n (Bk.len L m) R (Bk.flat L m) d) :
    Calls Try.prog 28 #[.pointer (some ⟨P, 0, none⟩), v, .int .i64 d] w fun e w' => e = .returned (.tuple #[]) ∧ ∃ a c, w'.rowIs P 37 5 (plc g (.slice a n c) s2 va vr) ∧
      Lst .i64 w' a (Bk.bump R d (Bk.flat L m)) ∧ (a = none → c = 0) ∧ (∀ x, a = some x → a1 = some x ∨ w.heap.size ≤ x.block) ∧ ButP P w w' := by
  obtain ⟨a2, n2, c2, rfl⟩ := h2
  obtain ⟨a, c, rfl⟩ := h.slice
  have HR : Hid (Rws w (.slice a m c) m L Q) := h
  have HP : Hid (w.rowIs P 37 5 (plc g (.slice a1 n c1) (.slice a2 n2 c2) va vr)) := hP
  have HL : Hid (Lst .i64 w a1 R ∧ (a1 = none → c1 = 0)) := ⟨hl, hc⟩
  have HN : Hid (R.length = n ∧ Bk.len L m ≤ 1000) := ⟨hn, hN⟩
  have HT : Hid (Turns n (Bk.len L m) R (Bk.flat L m) d) := ht
  have HD : Hid (d = 1 ∨ d = -1) := hd
  have TP : Hid (Ty w P 37) := ty_row hP
  clear h hP hl hc hn hN ht hd
  go_enter Try.func28, Try.ntmps28
  go_wp2
  go_loopw [12] (fun i wq => ∃ (k : Nat) (p : Option Addr) (q : Nat), k ≤ m ∧ i = .int .i64 k ∧ Hid (wq.rowIs P 37 5 (plc g (.slice p n q) (.slice a2 n2 c2) va vr)) ∧ Hid (Lst .i64 wq p (Bk.bump R d ((Bk.flat L m).take (Bk.len L k))) ∧ (p = none → q = 0) ∧ (∀ x, p = some x → a1 = some x ∨ w.heap.size ≤ x.block)) ∧ Hid (ButP P w wq)) (fun i _ => m - (intOf i).toNat)
  case atStart => exact ⟨0, a1, c1, Nat.zero_le _, rfl, HP.out, ⟨HL.out.1, HL.out.2, fun x h => .inl h⟩, ButQ.refl _ _ _ _⟩
  case round =>
    obtain ⟨k, p, q, hk, rfl, PR, PL, PB⟩ := hrel
    by_cases hlt : k < m
    · obtain ⟨db, c', A, C, e, hcell, ho, hA, hn⟩ := HR.out.cell hlt
      cases e
      have nd : ¬ db = P := HR.out.head.2.1.ne TP.out (by decide)
      have HA : Hid (Lst .i64 w A (L k)) := hA
      obtain ⟨n0, en⟩ : ∃ n0, (L k).length = n0 := ⟨_, rfl⟩
      have EN : Hid ((L k).length = n0) := en
      have hkl := Bk.len_mono L (show k + 1 ≤ m by omega)
      rw [Bk.len_succ, en] at hkl
      rw [en] at hcell ho
      have HKL : Hid (Bk.len L k + n0 ≤ Bk.len L m) := hkl
      have hn0 : n0 ≤ 1000 := by have := HN.out.2; omega
      have TA : Hid (∀ x, A = some x → ¬ x.block = P) := fun x ex => by
        subst ex
        exact (ty_own ho (q := x.block) rfl).ne TP.out (by decide)
      have hcw : wr.cell? ⟨db, k, none⟩ = some (.slice A n0 C) := (World.cell?_of_block (a := ⟨db, k, none⟩) (PB.out.block (World.block_lt_of_cell? w _ hcell) nd nd id)).trans hcell
      clear hA hn ho en hkl hcell
      go_wp2
      go_loopw [18] (fun i wq => ∃ (j : Nat) (p : Option Addr) (q : Nat), j ≤ n0 ∧ i = .int .i64 j ∧ Hid (wq.rowIs P 37 5 (plc g (.slice p n q) (.slice a2 n2 c2) va vr)) ∧ Hid (Lst .i64 wq p (Bk.bump R d ((Bk.flat L m).take (Bk.len L k + j))) ∧ (p = none → q = 0) ∧ (∀ x, p = some x → a1 = some x ∨ w.heap.size ≤ x.block)) ∧ Hid (ButP P w wq)) (fun i _ => n0 - (intOf i).toNat)
      case atStart => exact ⟨0, p, q, Nat.zero_le _, rfl, PR.out, PL.out, PB.out⟩
      case round =>
        clear PR PL PB hcw
        obtain ⟨j, p2, q2, hj, rfl, PR, PL, PB⟩ := hrel
        by_cases hlt2 : j < n0
        · have hA := PB.out.lst HA.out TA.out
          obtain ⟨ba, oa, e, hg⟩ := hA.get (show j < (L k).length by rw [EN.out]; exact hlt2)
          subst e
          have s0 := hg j (by rw [EN.out]; exact hlt2)
          obtain ⟨t, x, htn, et, ex, x0, x1⟩ := HT.out (Bk.len L k + j) (by have := HKL.out; omega)
          rw [← Bk.nth_flat L hlt (by rw [EN.out]; exact hlt2), et] at s0
          have ET : Hid (Ls.nth (Bk.flat L m) (Bk.len L k + j) = t) := et
          have EX : Hid (Ls.nth (Bk.bump R d ((Bk.flat L m).take (Bk.len L k + j))) t = x) := ex
          obtain ⟨⟨d0, d1, d2, _, _⟩, hf⟩ := pl_cells PR.out
          have f1 := hf 1
          have f2 := hf 2
          have plt : P < wr.heap.size := PR.out.lt
          obtain ⟨y, ey⟩ : ∃ y, x + d = y := ⟨_, rfl⟩
          have EY : Hid (x + d = y) := ey
          have hbd : -2 ≤ d ∧ d ≤ 2 := by rcases HD.out with q | q <;> rw [q] <;> decide
          clear hA hg et ex hf ey d0
          go_wp2_with (go_at_call 42; refine (refChange_ok p2 a2 n q2 n2 c2 t x y d _ _ PL.out.1 (by rw [Bk.bump_length]; exact HN.out.1) PL.out.2.1 htn EX.out x0 EY.out hbd (by omega) hn2).mono ?_; rintro e w3 ⟨p3, q3, rfl, hl3, hn3, hp3, hb3⟩; have L3 : Hid (Lst .i64 w3 p3 ((Bk.bump R d ((Bk.flat L m).take (Bk.len L k + j))).set t y) ∧ (p3 = none → q3 = 0) ∧ ∀ x, p3 = some x → wr.heap.size ≤ x.block) := ⟨hl3, hn3, hp3⟩; have B3 : Hid (Below wr.heap.size wr w3) := hb3; have R3 : Hid (w3.rowIs P 37 5 (plc g (.slice p2 n q2) (.slice a2 n2 c2) va vr)) := PR.out.of_block (hb3.block _ plt); obtain ⟨⟨_, e1, e2, _, _⟩, hf⟩ := pl_cells R3.out; have g1 := hf 1; have g2 := hf 2; clear hl3 hn3 hp3 hb3 hf)
          go_roundw
          case rel =>
            have hsz := PB.out.size
            refine ⟨j + 1, p3, q3, by omega, by go_num, ?_, ⟨?_, L3.out.2.1, ?_⟩, ?_⟩
            · exact (((R3.out.set 1 _).congr (fun i hi => plc_set1 _ _ _ _ _ _ i hi)).set 2 _).congr (fun i hi => plc_set2 _ _ _ _ _ _ i hi)
            · have hl := L3.out.1
              rw [← EY.out] at hl
              rw [← Nat.add_assoc, Bk.bump_take (by have := HKL.out; show _ < Bk.len L m; omega) ET.out EX.out]
              have b0 : ButP P w3 ((w3.setCell ⟨P, 1, none⟩ (.slice p3 n q3)).setCell ⟨P, 2, none⟩ (.slice a2 n2 c2)) := ((ButP.refl P w3).put _ _).put _ _
              exact b0.lst hl (fun x ex => by have := L3.out.2.2 x ex; omega)
            · intro x ex
              have := L3.out.2.2 x ex
              right
              omega
            · exact (ButP.put (show ButP P w w3 from PB.out.trans (ButQ.of_below B3.out)) _ _).put _ _
          case measure => simp [intOf]; omega
        · have ej : j = n0 := by omega
          subst ej
          go_wp2
          go_roundw
          case rel => exact ⟨k + 1, p2, q2, by omega, by go_num, PR.out, by rw [Bk.len_succ, EN.out]; exact PL.out, PB.out⟩
          case measure => simp [intOf]; omega
    · have ek : k = m := by omega
      subst ek
      go_wp2
      go_end0
      refine ⟨rfl, p, q, PR.out, ?_, PL.out.2.1, PL.out.2.2, PB.out⟩
      have := PL.out.1
      rw [List.take_of_length_le (by exact Nat.le_refl _)] at this
      exact this
end Go.Proofs.Ytpifemahakbegaa
/- Layer 11's fixed answers. -/
namespace Go.Proofs.Ytpifemahakbegaa
set_option linter.unusedVariables false
set_option linter.unusedSimpArgs false
open Go.RowKit

/-- Another table stands behind what a call on one table changes. -/
theorem Tab.other {w w' : World} {g b n U m : Nat} {R M : List Int} {L : Nat → List Int} {Q Q' : Nat → Prop} (h : Tab w g U m L Q) (hp : PoolAt w g b n R M) (hb : ButQ g b Q' w w') (hU : ¬ Q' U) (hq : ∀ q, Q q → ¬ Q' q) : Tab w' g U m L Q :=
  h.stand (hb.block h.lt (h.ty.ne hp.tys.1 (by decide)) (h.ty.ne hp.tys.2 (by decide)) hU) fun q qq ht => by
    rcases ht with t | t
    · exact hb.block t.lt (t.ne hp.tys.1 (by decide)) (t.ne hp.tys.2 (by decide)) (hq q qq)
    · exact hb.block t.lt (t.ne hp.tys.1 (by decide)) (t.ne hp.tys.2 (by decide)) (hq q qq)
theorem Tab.shut {w : World} {g T m : Nat} {L : Nat → List Int} {Q : Nat → Prop} {B : Nat} (h : Tab w g T m L Q) (hq : ∀ q, Q q → B ≤ q) : Tab w g T m L (fun q => B ≤ q ∧ q < w.heap.size) := h.mono fun q hl hqq => ⟨hq q hqq, hl⟩

theorem two_cases {p : Nat → Prop} (h0 : p 0) (h1 : p 1) : ∀ k, k < 2 → p k := fun k hk => by
  match k, hk with
  | 0, _ => exact h0
  | 1, _ => exact h1
/-- The law's own table: row 1 has slot 0. -/
def La : Nat → List Int := Bk.up (fun _ => []) 1 [((0 : Nat) : Int)]
theorem la_flat : Bk.flat La 2 = [0] := rfl

set_option maxRecDepth 100000 in
set_option maxHeartbeats 3200000 in
theorem bkAwake_any (w : World) : Calls Try.prog 7 #[] w fun e w' => e = .returned (.bool true) ∧ Below w.heap.size w w' := by
  go_enter Try.func7, Try.ntmps7
  go_wp2_with fail
  refine (newPool_ok 2 (by decide) _).mono ?_
  rintro e w1 ⟨g, b, rfl, hp, hg, hb, hbel⟩
  have P1 : Hid (PoolAt w1 g b 2 [0, 0] [0, 0]) := hp
  have G1 : Hid (w.heap.size ≤ g ∧ w.heap.size ≤ b) := ⟨hg, hb⟩
  have B1 : Hid (Below w.heap.size w w1) := hbel
  clear hp hg hb hbel
  go_wp2_with fail
  refine (made_b 3 _).mono ?_
  rintro e w2 ⟨q2, rfl, hq, hlt, hbel⟩
  have P2 : Hid (PoolAt w2 g b 2 [0, 0] [0, 0]) := P1.out.keep hbel
  have B2 : Hid (Below w.heap.size w w2) := below_then B1.out hbel
  clear hq hlt hbel P1 B1
  go_wp2_with fail
  refine (newTable_ok g 2 (by decide) _).mono ?_
  rintro e w3 ⟨T, rfl, ht, hT, hbel⟩
  have P3 : Hid (PoolAt w3 g b 2 [0, 0] [0, 0]) := P2.out.keep hbel
  have T3 : Hid (Tab w3 g T 2 (fun _ => []) (fun q => w.heap.size ≤ q)) := ht.mono fun q _ hq => by have := B2.out.size; omega
  have B3 : Hid (Below w.heap.size w w3) := below_then B2.out hbel
  have GT : Hid (w.heap.size ≤ T) := by have := B2.out.size; show w.heap.size ≤ T; omega
  clear ht hT hbel P2 B2
  go_wp2_with fail
  refine (newTable_bad g 17 (Or.inr (by decide)) _).mono ?_
  rintro e w' ⟨rfl, hww⟩
  cases hww.symm
  clear hww
  go_wp2_with fail
  refine (made_b 3 _).mono ?_
  rintro e w4 ⟨q4, rfl, hq, hlt, hbel⟩
  have P4 : Hid (PoolAt w4 g b 2 [0, 0] [0, 0]) := P3.out.keep hbel
  have T4 : Hid (Tab w4 g T 2 (fun _ => []) (fun q => w.heap.size ≤ q)) := T3.out.keep hbel
  have B4 : Hid (Below w.heap.size w w4) := below_then B3.out hbel
  have Q4 : Hid (PgM w4 q4 3) := hq
  clear hq hlt hbel P3 B3 T3
  go_wp2_with fail
  refine (add_ok g b 2 T 2 1 0 q4 3 [0, 0] [0, 0] (fun _ => []) _ _ P4.out T4.out (by decide) (by decide) (by decide) rfl (fun i hi => by omega) Q4.out).mono ?_
  rintro e w5 ⟨rfl, hp, ht, hbt⟩
  have P5 : Hid (PoolAt w5 g b 2 [1, 0] [3, 0]) := hp
  have T5 : Hid (Tab w5 g T 2 La (fun q => w.heap.size ≤ q)) := ht.mono fun q _ hq => by have := B4.out.size; omega
  have B5 : Hid (Below w.heap.size w w5) := B4.out.trans (hbt.below G1.out.1 G1.out.2 B4.out.size (fun q hq => hq))
  clear hp ht hbt P4 T4 B4 Q4
  go_wp2_with fail
  refine (made_b 3 _).mono ?_
  rintro e w6 ⟨q6, rfl, hq, hlt, hbel⟩
  have P6 : Hid (PoolAt w6 g b 2 [1, 0] [3, 0]) := P5.out.keep hbel
  have T6 : Hid (Tab w6 g T 2 La (fun q => w.heap.size ≤ q)) := T5.out.keep hbel
  have B6 : Hid (Below w.heap.size w w6) := below_then B5.out hbel
  clear hq hlt hbel P5 B5 T5
  go_wp2_with fail
  refine (add_no g T 2 2 _ La _ _ T6.out (by decide)).mono ?_
  rintro e w' ⟨rfl, hww⟩
  cases hww.symm
  clear hww
  go_wp2_with fail
  refine (fork_any g b 2 T 2 [1, 0] [3, 0] La _ _ P6.out T6.out (by decide) (by rw [show Bk.len La 2 = 1 from rfl]; decide) (fun x hx => by rw [la_flat] at hx; simp at hx; subst hx; decide) (two_cases (by decide) (by decide))).mono ?_
  rintro e w7 ⟨U, rfl, hp, hu, hU, hbt⟩
  have P7 : Hid (PoolAt w7 g b 2 [2, 0] [3, 0]) := hp
  have T7 : Hid (Tab w7 g T 2 La (fun q => w.heap.size ≤ q ∧ q < w6.heap.size)) := P6.out.tab hbt (T6.out.shut fun q hq => hq)
  have U7 : Hid (Tab w7 g U 2 La (fun q => w6.heap.size ≤ q)) := hu
  have B7 : Hid (Below w.heap.size w w7) := B6.out.trans (hbt.below G1.out.1 G1.out.2)
  have GU : Hid (w6.heap.size ≤ U) := hU
  clear hp hu hU hbt P6 T6 B6
  go_wp2_with fail
  refine (refs_some g b 2 0 2 [2, 0] [3, 0] _ P7.out (by decide) rfl (by decide)).mono ?_
  rintro e w' ⟨rfl, hww⟩
  cases hww.symm
  clear hww
  go_wp2_with fail
  refine (clear_any g b 2 T 2 [2, 0] [3, 0] La _ _ P7.out T7.out (by decide) (by rw [show Bk.len La 2 = 1 from rfl]; decide) (fun x hx => by rw [la_flat] at hx; simp at hx; subst hx; decide)
    (two_cases (by decide) (by decide)) (two_cases (by decide) (by decide))).mono ?_
  rintro e w8 ⟨rfl, hp, ht, hbt⟩
  have P8 : Hid (PoolAt w8 g b 2 [1, 0] [3, 0]) := hp
  have T8 : Hid (Tab w8 g T 2 (fun _ => []) (fun q => w.heap.size ≤ q ∧ q < w6.heap.size)) := ht
  have U8 : Hid (Tab w8 g U 2 La (fun q => w6.heap.size ≤ q)) := U7.out.other P7.out hbt (fun hq => by have := GU.out; omega) (fun q h1 h2 => by omega)
  have B8 : Hid (Below w.heap.size w w8) := B7.out.trans (hbt.below G1.out.1 G1.out.2 B7.out.size (fun q hq => hq.1))
  clear hp ht hbt P7 T7 U7 B7
  go_wp2_with fail
  refine (at_ok g b 2 U 2 1 0 0 [1, 0] [3, 0] La _ _ P8.out U8.out (by decide) (by decide) rfl (by decide) (by decide)).mono ?_
  rintro e w9 ⟨x, rfl, hq, hbel⟩
  have P9 : Hid (PoolAt w9 g b 2 [1, 0] [3, 0]) := P8.out.keep hbel
  have T9 : Hid (Tab w9 g T 2 (fun _ => []) (fun q => w.heap.size ≤ q ∧ q < w6.heap.size)) := T8.out.keep hbel
  have U9 : Hid (Tab w9 g U 2 La (fun q => w6.heap.size ≤ q)) := U8.out.keep hbel
  have B9 : Hid (Below w.heap.size w w9) := below_then B8.out hbel
  have X9 : Hid (PgM w9 x 3) := hq
  clear hq hbel P8 T8 U8 B8
  go_wp2_with fail
  refine (at_no g U 2 1 1 La _ _ U9.out (by decide)).mono ?_
  rintro e w' ⟨rfl, hww⟩
  cases hww.symm
  clear hww
  go_wp2_with fail
  refine (headM_any x 3 _ X9.out).mono ?_
  rintro e w10 ⟨x0, x1, x2, x3, x4, x5, rfl, hbel⟩
  have hfd := field_mark x0 x1 x2 x3 x4 x5 3
  have P10 : Hid (PoolAt w10 g b 2 [1, 0] [3, 0]) := P9.out.keep hbel
  have T10 : Hid (Tab w10 g T 2 (fun _ => []) (fun q => w.heap.size ≤ q ∧ q < w6.heap.size)) := T9.out.keep hbel
  have U10 : Hid (Tab w10 g U 2 La (fun q => w6.heap.size ≤ q)) := U9.out.keep hbel
  have B10 : Hid (Below w.heap.size w w10) := below_then B9.out hbel
  clear hbel P9 T9 U9 B9 X9
  go_wp2_with fail
  refine (len_yes g U 2 1 1 La _ _ U10.out (by decide) rfl).mono ?_
  rintro e w' ⟨rfl, hww⟩
  cases hww.symm
  clear hww hfd
  go_wp2_with fail
  refine (len_yes g T 2 1 0 _ _ _ T10.out (by decide) rfl).mono ?_
  rintro e w' ⟨rfl, hww⟩
  cases hww.symm
  clear hww
  go_wp2_with fail
  refine (slots_any' g U 2 1 La _ _ U10.out (by decide) rfl (by decide)).mono ?_
  rintro e w11 ⟨a, c, rfl, ho, hA, hbel⟩
  have P11 : Hid (PoolAt w11 g b 2 [1, 0] [3, 0]) := P10.out.keep hbel
  have U11 : Hid (Tab w11 g U 2 La (fun q => w6.heap.size ≤ q)) := U10.out.keep hbel
  have B11 : Hid (Below w.heap.size w w11) := below_then B10.out hbel
  clear hbel ho hA P10 T10 U10 B10
  go_wp2_with fail
  refine (refs_some g b 2 0 1 [1, 0] [3, 0] _ P11.out (by decide) rfl (by decide)).mono ?_
  rintro e w' ⟨rfl, hww⟩
  cases hww.symm
  clear hww
  go_wp2_with fail
  refine (rows_any g U 2 La _ _ U11.out).mono ?_
  rintro e w' ⟨rfl, hww⟩
  cases hww.symm
  clear hww
  go_wp2
  go_ret
  exact ⟨rfl, B11.out⟩
end Go.Proofs.Ytpifemahakbegaa
/- Layer 11's play: tables over a pool, and the document's. -/
namespace Go.Proofs.Ytpifemahakbegaa
set_option linter.unusedVariables false
set_option linter.unusedSimpArgs false
open Go.RowKit

/-- THE POOL AND ITS TABLES: table i lies at T i, its rows read as L i; col tells whose a block is. -/
def Core (w : World) (n m k g b : Nat) (R M : List Int) (T : Nat → Nat) (L : Nat → Nat → List Int) (col : Nat → Nat) : Prop :=
  PoolAt w g b n R M ∧ (∀ i, i < k → Tab w g (T i) m (L i) (fun q => col q = i + 1) ∧ col (T i) = 1000) ∧ col g = 1000 ∧ col b = 1000
/-- The document's lists: counts, marks, and each table's rows. -/
def Docs (w : World) (n m k : Nat) (R M : List Int) (s1 s2 : Value) (D : Nat → Value) (L : Nat → Nat → List Int) (col : Nat → Nat) : Prop :=
  (∃ a1 c1 a2 c2, s1 = .slice a1 n c1 ∧ s2 = .slice a2 n c2 ∧ Lst .i64 w a1 R ∧ Lst .i64 w a2 M ∧ (a1 = none → c1 = 0) ∧ (a2 = none → c2 = 0) ∧ (∀ x, a1 = some x → 0 < n → col x.block = 0) ∧ (∀ x, a2 = some x → 0 < n → col x.block = 0) ∧ R.length = n ∧ M.length = n) ∧
  ∀ i, i < k → Rws w (D i) m (L i) (fun q => col q = 0)
/-- The play's own boxes. -/
def ptrs (T : Nat → Nat) (k : Nat) : List Value := (List.range k).map fun i => .pointer (some ⟨T i, 0, none⟩)
def Box (B : Nat) (w : World) (P g k : Nat) (s1 s2 va vr : Value) (T : Nat → Nat) (D : Nat → Value) (col : Nat → Nat) : Prop :=
  w.rowIs P 37 5 (plc g s1 s2 va vr) ∧ w.ownsRow B 38 1 va k (ptrs T k) ∧ w.ownsRow B 53 1 vr k ((List.range k).map D) ∧
    col P = 1000 ∧ (∀ q, va.ownBlock = some q → col q = 1000) ∧ ∀ q, vr.ownBlock = some q → col q = 1000
/-- What was not made yet is nobody's. -/
def Fresh (B : Nat) (w : World) (col : Nat → Nat) : Prop := (∀ q, w.heap.size ≤ q → col q = 0) ∧ (∀ q, ¬ col q = 0 → B ≤ q) ∧ B ≤ w.heap.size
theorem Fresh.keep {B : Nat} {w w' : World} {col : Nat → Nat} (h : Fresh B w col) (hs : w.heap.size ≤ w'.heap.size) : Fresh B w' col := ⟨fun q hq => h.1 q (by omega), h.2.1, by have := h.2.2; omega⟩
/-- The blocks from s on, below e, are c's. -/
def re (s e c : Nat) (col : Nat → Nat) : Nat → Nat := fun q => if s ≤ q ∧ q < e then c else col q
theorem re_old {s e c : Nat} {col : Nat → Nat} {q : Nat} (h : q < s) : re s e c col q = col q := if_neg (by omega)
theorem re_new {s e c : Nat} {col : Nat → Nat} {q : Nat} (h : s ≤ q) (h2 : q < e) : re s e c col q = c := if_pos ⟨h, h2⟩
theorem re_past {s e c : Nat} {col : Nat → Nat} {q : Nat} (h : e ≤ q) : re s e c col q = col q := if_neg (by omega)
theorem Fresh.re {B : Nat} {w w' : World} {col : Nat → Nat} {s e : Nat} (c : Nat) (h : Fresh B w col) (hs : w.heap.size ≤ w'.heap.size) (h1 : w.heap.size ≤ s) (h2 : e ≤ w'.heap.size) : Fresh B w' (re s e c col) :=
  ⟨fun q hq => by rw [re_past (by omega)]; exact h.1 q (by omega), fun q hq => by
    by_cases hsq : q < s
    · rw [re_old hsq] at hq; exact h.2.1 q hq
    · have := h.2.2; omega, by have := h.2.2; omega⟩
theorem Rws.mono2 {w : World} {v : Value} {m : Nat} {L : Nat → List Int} {Q Q' : Nat → Prop} (h : Rws w v m L Q) (hq : ∀ q, q < w.heap.size → Ty w q 31 ∨ Ty w q 3 → Q q → Q' q) : Rws w v m L Q' := by
  rcases h with h | ⟨d, c, F, e, hc, hr, hd, h1, h2, h3⟩
  · exact .inl h
  · exact .inr ⟨d, c, F, e, hc, hr, hq d hr.lt (.inl (ty_row hr)) hd, h1, fun j hj q ho => hq q (ty_own (h1 j hj) ho).lt (.inr (ty_own (h1 j hj) ho)) (h2 j hj q ho), h3⟩
theorem Core.recol {w : World} {n m k g b : Nat} {R M : List Int} {T : Nat → Nat} {L : Nat → Nat → List Int} {col col' : Nat → Nat} (h : Core w n m k g b R M T L col) (hc : ∀ q, q < w.heap.size → col' q = col q) : Core w n m k g b R M T L col' :=
  ⟨h.1, fun i hi => ⟨(h.2.1 i hi).1.mono fun q hl hq => by rw [hc q hl]; exact hq, by rw [hc _ (h.2.1 i hi).1.lt]; exact (h.2.1 i hi).2⟩, by rw [hc _ h.1.lt.1]; exact h.2.2.1, by rw [hc _ h.1.lt.2]; exact h.2.2.2⟩
theorem lst_lt {w : World} {k : IntKind} {a : Option Addr} {l : List Int} (h : Lst k w a l) (hl : 0 < l.length) : ∀ x, a = some x → x.block < w.heap.size := fun x e => by
  obtain ⟨b, o, e2, hc⟩ := h 0 hl
  rw [e2] at e
  cases e
  exact World.block_lt_of_cell? w _ hc
/-- Lists hang on the blocks that they lie in alone; where one has nothing, on none. -/
theorem Lst.stand {w w' : World} {k : IntKind} {a : Option Addr} {l : List Int} (h : Lst k w a l) (hk : ∀ x, a = some x → 0 < l.length → x.block < w.heap.size → w'.heap[x.block]? = w.heap[x.block]?) : Lst k w' a l := fun i hi => by
  obtain ⟨b, o, e, hc⟩ := h i hi
  refine ⟨b, o, e, ?_⟩
  rw [World.cell?_of_block (a := ⟨b, o + i, none⟩) (hk ⟨b, o, none⟩ e (by omega) (show b < _ from World.block_lt_of_cell? w ⟨b, o + i, none⟩ hc))]
  exact hc
theorem Box.recol {B : Nat} {w : World} {P g k : Nat} {s1 s2 va vr : Value} {T : Nat → Nat} {D : Nat → Value} {col col' : Nat → Nat} (h : Box B w P g k s1 s2 va vr T D col) (hc : ∀ q, q < w.heap.size → col' q = col q) : Box B w P g k s1 s2 va vr T D col' :=
  ⟨h.1, h.2.1, h.2.2.1, by rw [hc _ h.1.lt]; exact h.2.2.2.1, fun q hq => by rw [hc q (h.2.1.lt q hq).2]; exact h.2.2.2.2.1 q hq, fun q hq => by rw [hc q (h.2.2.1.lt q hq).2]; exact h.2.2.2.2.2 q hq⟩
theorem Docs.recol {w : World} {n m k : Nat} {R M : List Int} {s1 s2 : Value} {D : Nat → Value} {L : Nat → Nat → List Int} {col col' : Nat → Nat} (h : Docs w n m k R M s1 s2 D L col) (hc : ∀ q, q < w.heap.size → col' q = col q) : Docs w n m k R M s1 s2 D L col' := by
  obtain ⟨⟨a1, c1, a2, c2, e1, e2, h1, h2, h3, h4, h5, h6, l1, l2⟩, hd⟩ := h
  exact ⟨⟨a1, c1, a2, c2, e1, e2, h1, h2, h3, h4, fun x ex hn => by rw [hc _ (lst_lt h1 (by omega) x ex)]; exact h5 x ex hn, fun x ex hn => by rw [hc _ (lst_lt h2 (by omega) x ex)]; exact h6 x ex hn, l1, l2⟩, fun i hi => (hd i hi).mono fun q hl hq => by rw [hc q hl]; exact hq⟩
theorem Core.keep {w w' : World} {n m k g b : Nat} {R M : List Int} {T : Nat → Nat} {L : Nat → Nat → List Int} {col : Nat → Nat} (h : Core w n m k g b R M T L col) (hb : Below w.heap.size w w') : Core w' n m k g b R M T L col :=
  ⟨h.1.keep hb, fun i hi => ⟨(h.2.1 i hi).1.keep hb, (h.2.1 i hi).2⟩, h.2.2⟩
theorem Docs.keep {w w' : World} {n m k : Nat} {R M : List Int} {s1 s2 : Value} {D : Nat → Value} {L : Nat → Nat → List Int} {col : Nat → Nat} (h : Docs w n m k R M s1 s2 D L col) (hb : Below w.heap.size w w') : Docs w' n m k R M s1 s2 D L col := by
  obtain ⟨⟨a1, c1, a2, c2, e1, e2, h1, h2, h3⟩, hd⟩ := h
  exact ⟨⟨a1, c1, a2, c2, e1, e2, h1.keep hb, h2.keep hb, h3⟩, fun i hi => (hd i hi).keep hb⟩
theorem Box.keep {B : Nat} {w w' : World} {P g k : Nat} {s1 s2 va vr : Value} {T : Nat → Nat} {D : Nat → Value} {col : Nat → Nat} (h : Box B w P g k s1 s2 va vr T D col) (hb : Below w.heap.size w w') : Box B w' P g k s1 s2 va vr T D col :=
  ⟨h.1.of_block (hb.block _ h.1.lt), own_at h.2.1 (fun q hq => hb.block q (h.2.1.lt q hq).2), own_at h.2.2.1 (fun q hq => hb.block q (h.2.2.1.lt q hq).2), h.2.2.2⟩
/-- A block of the play's own is written: it is none of the tables'. -/
theorem Core.one {w w' : World} {n m k g b : Nat} {R M : List Int} {T : Nat → Nat} {L : Nat → Nat → List Int} {col : Nat → Nat} (h : Core w n m k g b R M T L col) {H : Nat} {t : TypeId} (ht : Ty w H t)
    (e : ¬ t = 74 ∧ ¬ t = 86 ∧ ¬ t = 91 ∧ ¬ t = 64 ∧ ¬ t = 31 ∧ ¬ t = 3) (hk : ∀ q, q < w.heap.size → ¬ q = H → w'.heap[q]? = w.heap[q]?) : Core w' n m k g b R M T L col := by
  have far : ∀ q s, Ty w q s → ¬ s = t → w'.heap[q]? = w.heap[q]? := fun q s hq hs => hk q hq.lt (hq.ne ht hs)
  refine ⟨h.1.stand fun q hq => ?_, fun i hi => ⟨(h.2.1 i hi).1.stand (far _ _ (h.2.1 i hi).1.ty (fun q => e.2.2.2.1 q.symm)) fun q _ hq => ?_, (h.2.1 i hi).2⟩, h.2.2⟩
  · rcases hq with q1 | q1 | q1
    · exact far _ _ q1 (fun q => e.1 q.symm)
    · exact far _ _ q1 (fun q => e.2.1 q.symm)
    · exact far _ _ q1 (fun q => e.2.2.1 q.symm)
  · rcases hq with q1 | q1
    · exact far _ _ q1 (fun q => e.2.2.2.2.1 q.symm)
    · exact far _ _ q1 (fun q => e.2.2.2.2.2 q.symm)
theorem Docs.one {w w' : World} {n m k : Nat} {R M : List Int} {s1 s2 : Value} {D : Nat → Value} {L : Nat → Nat → List Int} {col : Nat → Nat} (h : Docs w n m k R M s1 s2 D L col) {H : Nat} (hH : ¬ col H = 0) (hk : ∀ q, q < w.heap.size → ¬ q = H → w'.heap[q]? = w.heap[q]?) : Docs w' n m k R M s1 s2 D L col := by
  obtain ⟨⟨a1, c1, a2, c2, e1, e2, h1, h2, h3, h4, h5, h6, l1, l2⟩, hd⟩ := h
  refine ⟨⟨a1, c1, a2, c2, e1, e2, h1.stand fun x ex hp hl => hk _ hl fun e => hH (by rw [← e]; exact h5 x ex (by omega)), h2.stand fun x ex hp hl => hk _ hl fun e => hH (by rw [← e]; exact h6 x ex (by omega)), h3, h4, h5, h6, l1, l2⟩, fun i hi => (hd i hi).stand fun q hq ht => ?_⟩
  exact hk q (by rcases ht with t | t <;> exact t.lt) fun e => hH (by rw [← e]; exact hq)
/-- A table's own call: the pool, and what is of colour c. -/
theorem Docs.but {w w' : World} {n m k g b c : Nat} {R M : List Int} {s1 s2 : Value} {D : Nat → Value} {L : Nat → Nat → List Int} {col : Nat → Nat} (h : Docs w n m k R M s1 s2 D L col) (hb : ButQ g b (fun q => col q = c) w w') (hg : col g = 1000) (hb2 : col b = 1000) (hc : ¬ c = 0) : Docs w' n m k R M s1 s2 D L col := by
  have far : ∀ q, q < w.heap.size → col q = 0 → w'.heap[q]? = w.heap[q]? := fun q hl hq => hb.block hl (fun e => by rw [e, hg] at hq; omega) (fun e => by rw [e, hb2] at hq; omega) (fun e => by omega)
  obtain ⟨⟨a1, c1, a2, c2, e1, e2, h1, h2, h3, h4, h5, h6, l1, l2⟩, hd⟩ := h
  exact ⟨⟨a1, c1, a2, c2, e1, e2, h1.stand fun x ex hp hl => far _ hl (h5 x ex (by omega)), h2.stand fun x ex hp hl => far _ hl (h6 x ex (by omega)), h3, h4, h5, h6, l1, l2⟩, fun i hi => (hd i hi).stand fun q hq ht => far q (by rcases ht with t | t <;> exact t.lt) hq⟩
theorem Box.but {B : Nat} {w w' : World} {P g b n k c : Nat} {R M : List Int} {s1 s2 va vr : Value} {T : Nat → Nat} {D : Nat → Value} {col : Nat → Nat} (h : Box B w P g k s1 s2 va vr T D col) (hp : PoolAt w g b n R M) (hb : ButQ g b (fun q => col q = c) w w') (hc : c < 1000) : Box B w' P g k s1 s2 va vr T D col := by
  obtain ⟨h1, h2, h3, h4, h5, h6⟩ := h
  refine ⟨h1.of_block (hb.block h1.lt ((ty_row h1).ne hp.tys.1 (by decide)) ((ty_row h1).ne hp.tys.2 (by decide)) (fun e => by have : col P = c := e; omega)), own_at h2 fun q hq => ?_, own_at h3 fun q hq => ?_, h4, h5, h6⟩
  · exact hb.block (h2.lt q hq).2 ((ty_own h2 hq).ne hp.tys.1 (by decide)) ((ty_own h2 hq).ne hp.tys.2 (by decide)) (fun e => by have : col q = c := e; have := h5 q hq; omega)
  · exact hb.block (h3.lt q hq).2 ((ty_own h3 hq).ne hp.tys.1 (by decide)) ((ty_own h3 hq).ne hp.tys.2 (by decide)) (fun e => by have : col q = c := e; have := h6 q hq; omega)
/-- A table's own call leaves the others; table a comes anew. -/
theorem Core.but {w w' : World} {n m k g b a : Nat} {R M R' M' : List Int} {T : Nat → Nat} {L : Nat → Nat → List Int} {l : Nat → List Int} {col col' : Nat → Nat} (h : Core w n m k g b R M T L col) (ha : a < k) (hb : ButQ g b (fun q => col q = a + 1) w w') (hk : k < 900) (hp : PoolAt w' g b n R' M') (ht : Tab w' g (T a) m l (fun q => col' q = a + 1))
    (hc : ∀ q, q < w.heap.size → col' q = col q) : Core w' n m k g b R' M' T (Bk.put L a l) col' := by
  refine ⟨hp, fun i hi => ⟨?_, by rw [hc _ (h.2.1 i hi).1.lt]; exact (h.2.1 i hi).2⟩, by rw [hc _ h.1.lt.1]; exact h.2.2.1, by rw [hc _ h.1.lt.2]; exact h.2.2.2⟩
  by_cases e : i = a
  · subst e; rw [Bk.put_at]; exact ht
  · rw [Bk.put_off L l e]
    have t0 := (h.2.1 i hi).1
    refine ((t0.mono (Q' := fun q => col q = i + 1 ∧ q < w.heap.size) fun q hl hq => ⟨hq, hl⟩).other h.1 hb (fun q => by have : col (T i) = a + 1 := q; have := (h.2.1 i hi).2; omega) (fun q h1 h2 => by have : col q = a + 1 := h2; have := h1.1; omega)).mono fun q _ hq => by rw [hc q hq.2]; exact hq.1
/-- A table more: U, whose rows are colour k + 1. -/
def tn (T : Nat → Nat) (k U : Nat) : Nat → Nat := fun i => if i = k then U else T i
theorem tn_at (T : Nat → Nat) (k U : Nat) : tn T k U k = U := if_pos rfl
theorem tn_off (T : Nat → Nat) {i k : Nat} (U : Nat) (h : ¬ i = k) : tn T k U i = T i := if_neg h
def recol2 (U s e c : Nat) (col : Nat → Nat) : Nat → Nat := re U (U + 1) 1000 (re s e c col)
theorem recol2_old {U s e c : Nat} {col : Nat → Nat} {q : Nat} (hU : s ≤ U) (h : q < s) : recol2 U s e c col q = col q := by unfold recol2; rw [re_old (by omega), re_old h]
theorem recol2_past {U s e c : Nat} {col : Nat → Nat} {q : Nat} (hU : U < e) (h : e ≤ q) : recol2 U s e c col q = col q := by
  unfold recol2
  rw [show re U (U + 1) 1000 (re s e c col) q = re s e c col q from if_neg (by omega), re_past h]
theorem Core.fork {w w' : World} {n m k g b a U : Nat} {R M R' : List Int} {T : Nat → Nat} {L : Nat → Nat → List Int} {col : Nat → Nat} (h : Core w n m k g b R M T L col) (hb : But2 g b w w') (hp : PoolAt w' g b n R' M) (ht : Tab w' g U m (L a) (fun q => w.heap.size ≤ q)) (hU : w.heap.size ≤ U) :
    Core w' n m (k + 1) g b R' M (tn T k U) (Bk.put L k (L a)) (recol2 U w.heap.size w'.heap.size (k + 1) col) := by
  have hc : ∀ q, q < w.heap.size → recol2 U w.heap.size w'.heap.size (k + 1) col q = col q := fun q hq => recol2_old hU hq
  refine ⟨hp, fun i hi => ?_, by rw [hc _ h.1.lt.1]; exact h.2.2.1, by rw [hc _ h.1.lt.2]; exact h.2.2.2⟩
  by_cases e : i = k
  · subst e
    rw [tn_at, Bk.put_at]
    refine ⟨?_, by unfold recol2; exact re_new (Nat.le_refl _) (by omega)⟩
    have tU := ht.ty
    obtain ⟨r, h1, h2⟩ := ht
    refine ⟨r, h1, ?_⟩
    refine (Rws.mono2 h2 fun q hl ht hq => ?_)
    show recol2 U w.heap.size w'.heap.size (i + 1) col q = i + 1
    have nq : ¬ q = U := by rcases ht with t | t <;> exact fun e => t.ne tU (by decide) e
    unfold recol2
    have : re U (U + 1) 1000 (re w.heap.size w'.heap.size (i + 1) col) q = re w.heap.size w'.heap.size (i + 1) col q := if_neg (by omega)
    rw [this]
    exact re_new hq hl
  · rw [tn_off T U e, Bk.put_off L _ e]
    have t0 := h.2.1 i (by omega)
    refine ⟨((h.1.tab hb (t0.1.mono (Q' := fun q => col q = i + 1 ∧ q < w.heap.size) fun q hl hq => ⟨hq, hl⟩))).mono fun q _ hq => by rw [hc q hq.2]; exact hq.1, by rw [hc _ t0.1.lt]; exact t0.2⟩
/-- What all counts say. -/
def Good (n m k j : Nat) (R : List Int) (L : Nat → Nat → List Int) : Prop :=
  (∀ x : Nat, x < n → Ls.nth R x = (Bk.tot L m x k : Int)) ∧ (∀ i, i < k → ∀ x, x ∈ Bk.flat (L i) m → 0 ≤ x ∧ x < n) ∧ (∀ i, i < k → Bk.len (L i) m ≤ j) ∧ 0 < k ∧ k ≤ 6
end Go.Proofs.Ytpifemahakbegaa
