/- Layer 13: SlMakes, SlOpens, PaPut, PaBytes, QbWorld. -/
import Derived.Test.YtnchnlgnnlgjcaaGreatCn06
import Derived.Test.YtnchnlgnnlgjcaaGreatCn11
import Derived.Test.YtnchnlgnnlgjcaaGreatCn01
import Derived.Test.YtnchnlgnnlgjcaaGreatCn10
import Derived.Laws.OwnMore
namespace Go.Proofs.YtnchnlgnnlgjcaaGreat
set_option linter.unusedVariables false
open Go.RowKit
theorem Lst.behind {k : IntKind} {w : World} {a : Option Addr} {l : List Int} (h : Lst k w a l) (t : Nat) : Lst k w (Option.map (fun x => x.add t) a) (l.drop t) := fun i hi => by
  simp at hi
  obtain ⟨b, o, e, hc⟩ := h (t + i) (by omega)
  subst e
  refine ⟨b, o + t, ?_, by rw [Ls.nth_drop, Nat.add_assoc]; exact hc⟩
  rw [Option.map_some, Addr.add_lit]
end Go.Proofs.YtnchnlgnnlgjcaaGreat
namespace Go.Proofs.YtnchnlgnnlgjcaaGreat
set_option linter.unusedVariables false
open Go.RowKit
/-- BLOCK j BEARS TYPE t. -/
def Ty (w : World) (j : Nat) (t : TypeId) : Prop := ∃ cs fz, w.heap[j]? = some (.cells cs t fz)
theorem Ty.ne {w : World} {i j : Nat} {s t : TypeId} (h : Ty w i s) (k : Ty w j t) (e : ¬ s = t) : ¬ i = j := fun q => by
  subst q
  obtain ⟨a, f, h⟩ := h
  obtain ⟨b, g, k⟩ := k
  rw [h] at k
  cases k
  exact e rfl
theorem ty_row {w : World} {b : Nat} {t : TypeId} {n : Nat} {f : Nat → Value} (h : w.rowIs b t n f) : Ty w b t := by
  obtain ⟨c, e, _⟩ := h
  exact ⟨c, _, e⟩
theorem ty_own {w : World} {base s : Nat} {t : TypeId} {v : Value} {n : Nat} {xs : List Value} (h : w.ownsRow base t s v n xs) {q : Nat} (hq : v.ownBlock = some q) : Ty w q t := by
  rcases h.2 with ⟨rfl, _⟩ | ⟨g, cap, cur, rfl, _, hg, _⟩
  · cases hq
  · cases hq; exact ⟨cur, _, hg⟩
theorem Ty.lt {w : World} {j : Nat} {t : TypeId} (h : Ty w j t) : j < w.heap.size := by
  obtain ⟨c, f, e⟩ := h
  exact (Array.getElem?_eq_some_iff.1 e).1
theorem Ty.of_block {w w' : World} {j : Nat} {t : TypeId} (h : Ty w j t) (e : w'.heap[j]? = w.heap[j]?) : Ty w' j t := by
  obtain ⟨c, f, h⟩ := h
  exact ⟨c, f, e.trans h⟩
/-- A pool hangs on blocks of three types alone. -/
theorem PoolAt.stand {w w' : World} {g b n : Nat} {R M : List Int} (h : PoolAt w g b n R M) (hk : ∀ j, Ty w j 99 ∨ Ty w j 133 ∨ Ty w j 176 → w'.heap[j]? = w.heap[j]?) : PoolAt w' g b n R M := by
  obtain ⟨P, h1, h2, h3, h4, h5, h6, h7, h8⟩ := h
  refine ⟨P, h1.of_block (hk _ (.inl (ty_row h1))), h2.of_block (hk _ (.inr (.inl (ty_row h2)))), h3, h4, h5, h6, h7, fun i hi hr => ?_⟩
  obtain ⟨q, e, n1, n2, hq⟩ := h8 i hi hr
  refine ⟨q, e, n1, n2, hq.of_block (hk _ (.inr (.inr ?_)))⟩
  obtain ⟨_, f, hr'⟩ := hq
  exact ty_row hr'
theorem PoolAt.tys {w : World} {g b n : Nat} {R M : List Int} (h : PoolAt w g b n R M) : Ty w g 99 ∧ Ty w b 133 := by
  obtain ⟨P, h1, h2, _⟩ := h
  exact ⟨ty_row h1, ty_row h2⟩
/-- A store into a block of another type. -/
theorem PoolAt.far {w : World} {g b n : Nat} {R M : List Int} (h : PoolAt w g b n R M) {H : Nat} {t : TypeId} (ht : Ty w H t) (e1 : ¬ t = 99) (e2 : ¬ t = 133) (e3 : ¬ t = 176) (o : Nat) (y : Value) : PoolAt (w.setCell ⟨H, o, none⟩ y) g b n R M :=
  h.stand fun j hj => by
    apply Below.heap_setCell
    show j ≠ H
    rcases hj with q | q | q
    · exact fun e => Ty.ne q ht (fun e => e1 e.symm) e
    · exact fun e => Ty.ne q ht (fun e => e2 e.symm) e
    · exact fun e => Ty.ne q ht (fun e => e3 e.symm) e
/-- A ROW OF NUMBERS of the call's own. -/
def RowAt (w : World) (v : Value) (l : List Int) : Prop := w.ownsRow 0 3 1 v l.length (l.map (Value.int .i64))
theorem RowAt.of_block {w w' : World} {v : Value} {l : List Int} (h : RowAt w v l) (hb : ∀ q, v.ownBlock = some q → w'.heap[q]? = w.heap[q]?) : RowAt w' v l := own_at h hb
theorem RowAt.keep {w w' : World} {v : Value} {l : List Int} (h : RowAt w v l) (hb : Below w.heap.size w w') : RowAt w' v l := own_below h hb
theorem row_none (w : World) : RowAt w (.slice none 0 0) [] := World.ownsRow_nil _ _ _ _
theorem RowAt.slice {w : World} {v : Value} {l : List Int} (h : RowAt w v l) : ∃ A C, v = .slice A l.length C ∧ Lst .i64 w A l ∧ (A = none → C = 0) ∧ ∀ x, A = some x → v.ownBlock = some x.block := by
  obtain ⟨A, C, e, hl, _⟩ := lst_of_own h
  refine ⟨A, C, e, hl, own_none h e, fun x ex => ?_⟩
  subst ex
  rw [e]; rfl
/-- ROWS: the slice v has m rows, the j-th one reads as L j; all blocks are of kind Q. -/
def Rws (w : World) (v : Value) (m : Nat) (L : Nat → List Int) (Q : Nat → Prop) : Prop :=
  (v = .slice none 0 0 ∧ m = 0) ∨
  ∃ d c F, v = .slice (some ⟨d, 0, none⟩) m c ∧ m ≤ c ∧ w.rowIs d 70 c F ∧ Q d ∧ (∀ j, j < m → RowAt w (F j) (L j)) ∧ (∀ j, j < m → ∀ q, (F j).ownBlock = some q → Q q) ∧
    ∀ i j q, i < m → j < m → (F i).ownBlock = some q → (F j).ownBlock = some q → i = j
theorem Rws.stand {w w' : World} {v : Value} {m : Nat} {L : Nat → List Int} {Q : Nat → Prop} (h : Rws w v m L Q) (hk : ∀ q, Q q → Ty w q 70 ∨ Ty w q 3 → w'.heap[q]? = w.heap[q]?) : Rws w' v m L Q := by
  rcases h with h | ⟨d, c, F, e, hc, hr, hd, h1, h2, h3⟩
  · exact .inl h
  · exact .inr ⟨d, c, F, e, hc, hr.of_block (hk d hd (.inl (ty_row hr))), hd, fun j hj => (h1 j hj).of_block fun q hq => hk q (h2 j hj q hq) (.inr (ty_own (h1 j hj) hq)), h2, h3⟩
theorem Rws.keep {w w' : World} {v : Value} {m : Nat} {L : Nat → List Int} {Q : Nat → Prop} (h : Rws w v m L Q) (hb : Below w.heap.size w w') : Rws w' v m L Q := h.stand fun q _ ht => hb.block q (by rcases ht with t | t <;> exact t.lt)
theorem Rws.mono {w : World} {v : Value} {m : Nat} {L : Nat → List Int} {Q Q' : Nat → Prop} (h : Rws w v m L Q) (hq : ∀ q, q < w.heap.size → Q q → Q' q) : Rws w v m L Q' := by
  rcases h with h | ⟨d, c, F, e, hc, hr, hd, h1, h2, h3⟩
  · exact .inl h
  · exact .inr ⟨d, c, F, e, hc, hr, hq d hr.lt hd, h1, fun j hj q ho => hq q (ty_own (h1 j hj) ho).lt (h2 j hj q ho), h3⟩
theorem Rws.congr {w : World} {v : Value} {m : Nat} {L L' : Nat → List Int} {Q : Nat → Prop} (h : Rws w v m L Q) (hl : ∀ j, j < m → L j = L' j) : Rws w v m L' Q := by
  rcases h with h | ⟨d, c, F, e, hc, hr, hd, h1, h2, h3⟩
  · exact .inl h
  · exact .inr ⟨d, c, F, e, hc, hr, hd, fun j hj => by rw [← hl j hj]; exact h1 j hj, h2, h3⟩
theorem Rws.slice {w : World} {v : Value} {m : Nat} {L : Nat → List Int} {Q : Nat → Prop} (h : Rws w v m L Q) : ∃ a c, v = .slice a m c := by
  rcases h with ⟨h, hm⟩ | ⟨d, c, F, e, _⟩
  · exact ⟨none, 0, by rw [hm]; exact h⟩
  · exact ⟨_, c, e⟩
/-- A row's own cell. -/
theorem Rws.cell {w : World} {v : Value} {m : Nat} {L : Nat → List Int} {Q : Nat → Prop} (h : Rws w v m L Q) {j : Nat} (hj : j < m) :
    ∃ d c A C, v = .slice (some ⟨d, 0, none⟩) m c ∧ w.cell? ⟨d, j, none⟩ = some (.slice A (L j).length C) ∧ RowAt w (.slice A (L j).length C) (L j) ∧ Lst .i64 w A (L j) ∧ (A = none → C = 0) := by
  rcases h with ⟨_, hm⟩ | ⟨d, c, F, e, hc, hr, hd, h1, _⟩
  · omega
  · obtain ⟨A, C, e1, hl, hn, _⟩ := (h1 j hj).slice
    have hcell := hr.cell (show j < c by omega)
    have hj1 := h1 j hj
    rw [e1] at hcell hj1
    exact ⟨d, c, A, C, e, hcell, hj1, hl, hn⟩
/-- Rows that were made: all are empty. -/
theorem rws_made {w : World} {d n : Nat} {Q : Nat → Prop} (h : w.rowIs d 70 n (fun _ => .slice none 0 0)) (hd : Q d) : Rws w (.slice (some ⟨d, 0, none⟩) n n) n (fun _ => []) Q :=
  .inr ⟨d, n, _, rfl, Nat.le_refl _, h, hd, fun j _ => row_none w, fun j _ q e => absurd (show (none : Option Nat) = some q from e) (by simp), fun i j q _ _ e => absurd (show (none : Option Nat) = some q from e) (by simp)⟩
/-- A ROW IS TURNED: the row's old value v0, its new one v1; then the new one is laid into the rows. -/
theorem Rws.more {w w' : World} {d m c j : Nat} {L : Nat → List Int} {Q : Nat → Prop} (h : Rws w (.slice (some ⟨d, 0, none⟩) m c) m L Q) (hj : j < m) {v0 v1 : Value} (hv : w.cell? ⟨d, j, none⟩ = some v0)
    {l : List Int} (hnew : RowAt w' v1 l) (hat : ∀ g, v1.ownBlock = some g → v0.ownBlock = some g ∨ w.heap.size ≤ g)
    (hk : ∀ q, q < w.heap.size → ¬ v0.ownBlock = some q → w'.heap[q]? = w.heap[q]?) : Rws (w'.setCell ⟨d, j, none⟩ v1) (.slice (some ⟨d, 0, none⟩) m c) m (Bk.up L j l) (fun q => Q q ∨ w.heap.size ≤ q) := by
  rcases h with ⟨h, hm⟩ | ⟨d', c', F, e, hc, hr, hd, h1, h2, h3⟩
  · cases h
  · cases e
    have hv0 : v0 = F j := by have := hr.cell (show j < c by omega); rw [this] at hv; cases hv; rfl
    subst hv0
    have td := ty_row hr
    have nd : ∀ q, (F j).ownBlock = some q → ¬ q = d := fun q hq => (ty_own (h1 j hj) hq).ne td (by decide)
    have hr' : w'.rowIs d 70 c F := hr.of_block (hk d hr.lt (fun e => nd d e rfl))
    have gd : ∀ g, v1.ownBlock = some g → ¬ g = d := fun g hg => by
      rcases hat g hg with q | q
      · exact nd g q
      · have := hr.lt; omega
    refine .inr ⟨d, c, fun i => if i = j then v1 else F i, rfl, hc, hr'.set j v1, .inl hd, fun i hi => ?_, fun i hi q hq => ?_, fun i i2 q hi hi2 ei ei2 => ?_⟩
    · by_cases e : i = j
      · show RowAt _ (if i = j then v1 else F i) (Bk.up L j l i)
        rw [if_pos e, e, Bk.up_at]
        exact hnew.of_block fun q hq => Below.heap_setCell _ _ _ _ (show q ≠ d from gd q hq)
      · show RowAt _ (if i = j then v1 else F i) (Bk.up L j l i)
        rw [if_neg e, Bk.up_off L l e]
        refine (h1 i hi).of_block fun q hq => ?_
        rw [Below.heap_setCell _ _ _ _ (show q ≠ d from (ty_own (h1 i hi) hq).ne td (by decide))]
        exact hk q (ty_own (h1 i hi) hq).lt fun e2 => e (h3 i j q hi hj hq e2)
    · have hq : (if i = j then v1 else F i).ownBlock = some q := hq
      show Q q ∨ _
      by_cases e : i = j
      · rw [if_pos e] at hq
        rcases hat q hq with q1 | q1
        · exact .inl (h2 j hj _ q1)
        · exact .inr q1
      · rw [if_neg e] at hq
        exact .inl (h2 i hi q hq)
    · have far : ∀ t, ¬ t = j → t < m → (F t).ownBlock = some q → v1.ownBlock = some q → False := fun t nt ht et ev => by
        rcases hat q ev with q1 | q1
        · exact nt (h3 t j q ht hj et q1)
        · have := (ty_own (h1 t ht) et).lt; omega
      have ei : (if i = j then v1 else F i).ownBlock = some q := ei
      have ei2 : (if i2 = j then v1 else F i2).ownBlock = some q := ei2
      by_cases e : i = j
      · by_cases e2 : i2 = j
        · rw [e, e2]
        · rw [if_pos e] at ei
          rw [if_neg e2] at ei2
          exact (far i2 e2 hi2 ei2 ei).elim
      · rw [if_neg e] at ei
        by_cases e2 : i2 = j
        · rw [if_pos e2] at ei2
          exact (far i e hi ei ei2).elim
        · rw [if_neg e2] at ei2
          exact h3 i i2 q hi hi2 ei ei2
/-- The two cells of a table. -/
def tbc (g r m : Nat) (i : Nat) : Value := if i = 0 then .pointer (some ⟨g, 0, none⟩) else .slice (some ⟨r, 0, none⟩) m m
/-- A TABLE LIES AT BLOCK T, over the pool at g, with m rows. -/
def Tab (w : World) (g T m : Nat) (L : Nat → List Int) (Q : Nat → Prop) : Prop :=
  ∃ r, w.rowIs T 151 2 (tbc g r m) ∧ Rws w (.slice (some ⟨r, 0, none⟩) m m) m L Q
theorem Tab.stand {w w' : World} {g T m : Nat} {L : Nat → List Int} {Q : Nat → Prop} (h : Tab w g T m L Q) (ht : w'.heap[T]? = w.heap[T]?) (hk : ∀ q, Q q → Ty w q 70 ∨ Ty w q 3 → w'.heap[q]? = w.heap[q]?) : Tab w' g T m L Q := by
  obtain ⟨r, h1, h2⟩ := h
  exact ⟨r, h1.of_block ht, h2.stand hk⟩
theorem Tab.lt {w : World} {g T m : Nat} {L : Nat → List Int} {Q : Nat → Prop} (h : Tab w g T m L Q) : T < w.heap.size := by
  obtain ⟨r, h1, _⟩ := h
  exact h1.lt
theorem Tab.ty {w : World} {g T m : Nat} {L : Nat → List Int} {Q : Nat → Prop} (h : Tab w g T m L Q) : Ty w T 151 := by
  obtain ⟨r, h1, _⟩ := h
  exact ty_row h1
theorem Tab.keep {w w' : World} {g T m : Nat} {L : Nat → List Int} {Q : Nat → Prop} (h : Tab w g T m L Q) (hb : Below w.heap.size w w') : Tab w' g T m L Q := by
  obtain ⟨r, h1, h2⟩ := h
  exact ⟨r, h1.of_block (hb.block T h1.lt), h2.keep hb⟩
theorem Tab.mono {w : World} {g T m : Nat} {L : Nat → List Int} {Q Q' : Nat → Prop} (h : Tab w g T m L Q) (hq : ∀ q, q < w.heap.size → Q q → Q' q) : Tab w g T m L Q' := by
  obtain ⟨r, h1, h2⟩ := h
  exact ⟨r, h1, h2.mono hq⟩
theorem Tab.congr {w : World} {g T m : Nat} {L L' : Nat → List Int} {Q : Nat → Prop} (h : Tab w g T m L Q) (hl : ∀ j, j < m → L j = L' j) : Tab w g T m L' Q := by
  obtain ⟨r, h1, h2⟩ := h
  exact ⟨r, h1, h2.congr hl⟩
theorem Tab.cells {w : World} {g T m : Nat} {L : Nat → List Int} {Q : Nat → Prop} (h : Tab w g T m L Q) :
    ∃ r, w.cell? ⟨T, 0, none⟩ = some (.pointer (some ⟨g, 0, none⟩)) ∧ w.cell? ⟨T, 1, none⟩ = some (.slice (some ⟨r, 0, none⟩) m m) ∧ Rws w (.slice (some ⟨r, 0, none⟩) m m) m L Q := by
  obtain ⟨r, h1, h2⟩ := h
  exact ⟨r, h1.cell (show 0 < 2 by decide), h1.cell (show 1 < 2 by decide), h2⟩
/-- What a call changes: the pool's blocks, and those of kind Q. -/
def ButQ (g b : Nat) (Q : Nat → Prop) (w w' : World) : Prop :=
  w'.os = w.os ∧ w'.tape = w.tape ∧ w'.output = w.output ∧ w.heap.size ≤ w'.heap.size ∧ ∀ j, j < w.heap.size → ¬ j = g → ¬ j = b → ¬ Q j → w'.heap[j]? = w.heap[j]?
theorem ButQ.refl (g b : Nat) (Q : Nat → Prop) (w : World) : ButQ g b Q w w := ⟨rfl, rfl, rfl, Nat.le_refl _, fun _ _ _ _ _ => rfl⟩
theorem ButQ.trans {g b : Nat} {Q : Nat → Prop} {w v u : World} (h : ButQ g b Q w v) (k : ButQ g b Q v u) : ButQ g b Q w u :=
  ⟨k.1.trans h.1, k.2.1.trans h.2.1, k.2.2.1.trans h.2.2.1, Nat.le_trans h.2.2.2.1 k.2.2.2.1, fun j h0 h1 h2 h3 => by rw [k.2.2.2.2 j (Nat.lt_of_lt_of_le h0 h.2.2.2.1) h1 h2 h3, h.2.2.2.2 j h0 h1 h2 h3]⟩
theorem ButQ.size {g b : Nat} {Q : Nat → Prop} {w v : World} (h : ButQ g b Q w v) : w.heap.size ≤ v.heap.size := h.2.2.2.1
theorem ButQ.of_below {g b : Nat} {Q : Nat → Prop} {w v : World} (h : Below w.heap.size w v) : ButQ g b Q w v := ⟨h.os, h.tape, h.output, h.size, fun j hj _ _ _ => h.block j hj⟩
theorem ButQ.of_but2 {g b : Nat} {Q : Nat → Prop} {w v : World} (h : But2 g b w v) : ButQ g b Q w v := ⟨h.1.os, h.1.tape, h.1.output, h.1.size, fun j hj h1 h2 _ => h.2 j hj h1 h2⟩
theorem ButQ.mono {g b : Nat} {Q Q' : Nat → Prop} {w v : World} (h : ButQ g b Q w v) (hq : ∀ q, q < w.heap.size → Q q → Q' q) : ButQ g b Q' w v := ⟨h.1, h.2.1, h.2.2.1, h.2.2.2.1, fun j h0 h1 h2 h3 => h.2.2.2.2 j h0 h1 h2 fun q => h3 (hq j h0 q)⟩
theorem ButQ.set {g b : Nat} {Q : Nat → Prop} {w v : World} (h : ButQ g b Q w v) {p : Addr} (hp : Q p.block ∨ w.heap.size ≤ p.block) (y : Value) : ButQ g b Q w (v.setCell p y) :=
  ⟨((Below.refl 0 v).setCell (p := p) (Nat.zero_le _) y).os.trans h.1, ((Below.refl 0 v).setCell (p := p) (Nat.zero_le _) y).tape.trans h.2.1, ((Below.refl 0 v).setCell (p := p) (Nat.zero_le _) y).output.trans h.2.2.1, Nat.le_trans h.2.2.2.1 ((Below.refl 0 v).setCell (p := p) (Nat.zero_le _) y).size, fun j h0 h1 h2 h3 => by
    rw [Below.heap_setCell _ _ _ _ (show j ≠ p.block from fun e => by subst e; rcases hp with q | q; exact h3 q; omega)]; exact h.2.2.2.2 j h0 h1 h2 h3⟩
theorem ButQ.below {g b B : Nat} {Q : Nat → Prop} {w v : World} (h : ButQ g b Q w v) (hg : B ≤ g) (hb : B ≤ b) (hs : B ≤ w.heap.size) (hq : ∀ q, Q q → B ≤ q) : Below B w v :=
  ⟨h.1, h.2.1, h.2.2.1, h.2.2.2.1, fun j hj => h.2.2.2.2 j (by omega) (by omega) (by omega) fun q => by have := hq j q; omega⟩
theorem ButQ.block {g b : Nat} {Q : Nat → Prop} {w v : World} (h : ButQ g b Q w v) {j : Nat} (h0 : j < w.heap.size) (h1 : ¬ j = g) (h2 : ¬ j = b) (h3 : ¬ Q j) : v.heap[j]? = w.heap[j]? := h.2.2.2.2 j h0 h1 h2 h3
end Go.Proofs.YtnchnlgnnlgjcaaGreat
