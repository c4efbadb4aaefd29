/- Layer 11, BlockOrder: rows of marks beside a table: an entry and a mark at a time. -/
import Derived.Test.YtpifemahakbegaaBkB
import Derived.Deep.AppendLies
namespace Go.Proofs.Ytpifemahakbegaa
set_option linter.unusedVariables false
set_option linter.unusedSimpArgs false
open Go.RowKit

theorem row_openI2 {w : World} {a : Option Addr} {len cap : Nat} {zs : List Int}
    (h : (a = none ∧ len = 0 ∧ cap = 0 ∧ zs = []) ∨ ∃ x, a = some x ∧ len ≤ cap ∧ cap ≤ maxLen ∧ zs.length = cap ∧ (∀ i, i < zs.length → w.cell? (x.add i) = some (.int .i64 (zs.getD i 0))) ∧ ∀ n ∈ zs, (Lit.int .i64 n).wf = true) :
    ∃ l : List Int, l.length = len ∧ Lst .i64 w a l ∧ len ≤ maxLen := by
  rcases h with ⟨rfl, rfl, rfl, rfl⟩ | ⟨x, rfl, h1, h2, h3, h4, h5⟩
  · exact ⟨[], rfl, Lst.nil _ _ _, Nat.zero_le _⟩
  · exact ⟨zs.take len, by simp; omega, lst_of_cells (by omega) h4, by omega⟩

/-- c rounds are over: what the rows of slots L and the rows of marks W have to do with one another. -/
def Ord (m c : Nat) (R M : List Int) (L W : Nat → List Int) : Prop :=
  60 ≤ Po.cnt R + c ∧ (∀ i, 0 ≤ Ls.nth R i ∧ Ls.nth R i ≤ 1) ∧ Bk.len L m ≤ c ∧ ∀ r, r < m → (L r).length = (W r).length ∧ (W r).length ≤ c ∧ ∀ j, j < (L r).length → ∃ x : Nat, Ls.nth (L r) j = x ∧ x < 60 ∧ 0 < Ls.nth R x ∧ Ls.nth M x = Ls.nth (W r) j
theorem ord_none (m : Nat) : Ord m 0 (Po.zeros 60) (Po.zeros 60) (fun _ => []) (fun _ => []) :=
  ⟨by rw [Po.cnt_zeros]; omega, fun i => by rw [Po.nth_zeros]; omega, by unfold Bk.len; rw [Bk.flat_nil]; exact Nat.le_refl _, fun r _ => ⟨rfl, Nat.le_refl _, fun j hj => absurd hj (Nat.not_lt_zero _)⟩⟩
theorem Ord.skip {m c : Nat} {R M : List Int} {L W : Nat → List Int} (h : Ord m c R M L W) : Ord m (c + 1) R M L W := by
  obtain ⟨h1, h2, h3, h4⟩ := h
  refine ⟨by omega, h2, by omega, fun r hr => ?_⟩
  obtain ⟨q1, q2, q3⟩ := h4 r hr
  exact ⟨q1, by omega, q3⟩
theorem Ord.add {m c k r : Nat} {R M : List Int} {L W : Nat → List Int} (h : Ord m c R M L W) (hR : R.length = 60) (hM : M.length = 60) (hk : k < 60) (h0 : Ls.nth R k = 0) (hr : r < m) {y : Int} :
    Ord m (c + 1) (R.set k 1) (M.set k y) (Bk.up L r (L r ++ [(k : Int)])) (Bk.up W r (W r ++ [y])) := by
  obtain ⟨h1, h2, h3, h4⟩ := h
  have c1 := Po.cnt_set (l := R) (p := k) (by omega) 1
  rw [if_pos h0, if_neg (by decide)] at c1
  have old : ∀ x : Nat, 0 < Ls.nth R x → Ls.nth (R.set k 1) x = Ls.nth R x ∧ Ls.nth (M.set k y) x = Ls.nth M x := fun x hx => by
    have : ¬ x = k := fun e => by rw [e, h0] at hx; omega
    rw [Po.nth_set (by omega), Po.nth_set (by omega), if_neg this, if_neg this]
    exact ⟨rfl, rfl⟩
  refine ⟨by omega, fun i => ?_, by rw [Bk.len_up L hr]; omega, fun r2 hr2 => ?_⟩
  · rw [Po.nth_set (by omega)]
    split
    · omega
    · exact h2 i
  · obtain ⟨q1, q2, q3⟩ := h4 r2 hr2
    by_cases e : r2 = r
    · subst e
      rw [Bk.up_at, Bk.up_at, List.length_append, List.length_append]
      refine ⟨by simp; omega, by simp; omega, fun j hj => ?_⟩
      by_cases ej : j < (L r2).length
      · obtain ⟨x, p1, p2, p3, p4⟩ := q3 j ej
        refine ⟨x, by rw [Ls.nth_append_left ej]; exact p1, p2, by rw [(old x p3).1]; exact p3, by rw [(old x p3).2, Ls.nth_append_left (by omega)]; exact p4⟩
      · simp at hj
        have : j = (L r2).length := by omega
        refine ⟨k, Ls.nth_append_at this, hk, by rw [Po.nth_set (by omega), if_pos rfl]; omega, by rw [Po.nth_set (by omega), if_pos rfl, Ls.nth_append_at (by omega)]⟩
    · rw [Bk.up_off L _ e, Bk.up_off W _ e]
      refine ⟨q1, by omega, fun j hj => ?_⟩
      obtain ⟨x, p1, p2, p3, p4⟩ := q3 j hj
      exact ⟨x, p1, p2, by rw [(old x p3).1]; exact p3, by rw [(old x p3).2]; exact p4⟩
theorem Ord.held {m c : Nat} {R M : List Int} {L W : Nat → List Int} (h : Ord m c R M L W) : ∀ x, x ∈ Bk.flat L m → (0 ≤ x ∧ x < (60 : Nat)) ∧ 0 < Ls.nth R x.toNat := fun x hx => by
  obtain ⟨r, hr, hm⟩ := Bk.mem_flat hx
  obtain ⟨i, hi, e⟩ := List.getElem_of_mem hm
  obtain ⟨z, p1, p2, p3, _⟩ := (h.2.2.2 r hr).2.2 i hi
  rw [Ls.nth_of_lt hi, e] at p1
  subst p1
  refine ⟨by omega, by simpa using p3⟩

/-- The pool, the table, the rows of marks, each in its own memory. -/
def OrdW (B : Nat) (w : World) (g b T m : Nat) (R M : List Int) (L W : Nat → List Int) (v : Value) : Prop :=
  PoolAt w g b 60 R M ∧ ∃ Q1 Q2 : Nat → Prop, Tab w g T m L Q1 ∧ Rws w v m W Q2 ∧ (∀ q, Q1 q → B ≤ q ∧ q < w.heap.size ∧ ¬ Q2 q) ∧ (∀ q, Q2 q → B ≤ q ∧ q < w.heap.size) ∧ B ≤ g ∧ B ≤ b ∧ B ≤ w.heap.size
theorem OrdW.keep {B : Nat} {w w' : World} {g b T m : Nat} {R M : List Int} {L W : Nat → List Int} {v : Value} (h : OrdW B w g b T m R M L W v) (hb : Below w.heap.size w w') : OrdW B w' g b T m R M L W v := by
  obtain ⟨h1, Q1, Q2, h2, h3, h4, h5, h6, h7, h8⟩ := h
  have hs := hb.size
  exact ⟨h1.keep hb, Q1, Q2, h2.keep hb, h3.keep hb, fun q hq => ⟨(h4 q hq).1, by have := (h4 q hq).2.1; omega, (h4 q hq).2.2⟩, fun q hq => ⟨(h5 q hq).1, by have := (h5 q hq).2; omega⟩, h6, h7, by omega⟩
theorem order_add (B g b T m row k q : Nat) (mk : Int) (R M : List Int) (L W : Nat → List Int) (v : Value) (w : World) (h : OrdW B w g b T m R M L W v) (hr : row < m) (hL : (L row).length ≤ 100000) (hk : k < 60) (h0 : Ls.nth R k = 0) (hl : ∀ i, i < k → ¬ Ls.nth R i = 0) (hq : PgM w q mk) :
    Calls Try.prog 16 #[.pointer (some ⟨T, 0, none⟩), .int .i64 row, .pointer (some ⟨q, 0, none⟩)] w fun e w' => e = .returned (.int .i64 0) ∧ OrdW B w' g b T m (R.set k 1) (M.set k mk) (Bk.up L row (L row ++ [(k : Int)])) W v ∧ Below B w w' := by
  obtain ⟨h1, Q1, Q2, h2, h3, h4, h5, h6, h7, h8⟩ := h
  refine (add_ok g b 60 T m row k q mk R M L Q1 w h1 h2 hr hL hk h0 hl hq).mono fun e w' z => ?_
  obtain ⟨rfl, z1, z2, z3⟩ := z
  have hs := z3.size
  refine ⟨rfl, ⟨z1, fun j => (Q1 j ∨ w.heap.size ≤ j) ∧ j < w'.heap.size, Q2, z2.mono fun j hj hq => ⟨hq, hj⟩, h3.stand fun j hj ht => ?_, fun j hj => ⟨?_, hj.2, fun hj2 => ?_⟩, fun j hj => ⟨(h5 j hj).1, by have := (h5 j hj).2; omega⟩, h6, h7, by omega⟩, z3.below h6 h7 h8 fun j hj => (h4 j hj).1⟩
  · exact z3.block (h5 j hj).2 (by rcases ht with t | t <;> exact t.ne h1.tys.1 (by decide)) (by rcases ht with t | t <;> exact t.ne h1.tys.2 (by decide)) fun e => (h4 j e).2.2 hj
  · rcases hj.1 with e | e
    · exact (h4 j e).1
    · omega
  · rcases hj.1 with e | e
    · exact (h4 j e).2.2 hj2
    · have := (h5 j hj2).2; omega
/-- What a mark behind a row wants to know of the row. -/
theorem OrdW.row {B : Nat} {w : World} {g b T m r : Nat} {R M : List Int} {L W : Nat → List Int} {v : Value} (h : OrdW B w g b T m R M L W v) (hr : r < m) :
    ∃ d cc A C, v = .slice (some ⟨d, 0, none⟩) m cc ∧ w.cell? ⟨d, r, none⟩ = some (.slice A (W r).length C) ∧ RowAt w (.slice A (W r).length C) (W r) ∧ w.frozen? ⟨d, r, none⟩ = false ∧ d < w.heap.size ∧ ¬ Value.ownBlock (.slice A (W r).length C) = some d := by
  obtain ⟨h1, Q1, Q2, h2, h3, _⟩ := h
  obtain ⟨d, c, A, C, e, hc, ho, _⟩ := h3.cell hr
  refine ⟨d, c, A, C, e, hc, ho, ?_⟩
  rcases h3 with ⟨q, _⟩ | ⟨d', c', F, e', _, hr', _⟩
  · rw [e] at q; cases q
  · rw [e] at e'
    cases e'
    exact ⟨hr'.frozen _, hr'.lt, fun q => (ty_own ho q).ne (ty_row hr') (by decide) rfl⟩
theorem OrdW.more {B : Nat} {w w1 : World} {g b T m r d cc n0 gg cap : Nat} {R M : List Int} {L W : Nat → List Int} {A : Option Addr} {C : Nat} {o : Obj} {y : Int} (h : OrdW B w g b T m R M L W (.slice (some ⟨d, 0, none⟩) m cc)) (hr : r < m) (hn : (W r).length = n0)
    (hv : w.cell? ⟨d, r, none⟩ = some (.slice A n0 C)) (ho : w1.ownsRow 0 3 1 (.slice (some ⟨gg, 0, none⟩) (n0 + 1) cap) (n0 + 1) ((W r).map (Value.int .i64) ++ [.int .i64 y]))
    (hg : (w.alloc o).grownBy w1 (Value.ownBlock (.slice A n0 C))) (hat : Value.ownBlock (.slice A n0 C) = some gg ∨ gg = w.heap.size + 1) :
    OrdW B (w1.setCell ⟨d, r, none⟩ (.slice (some ⟨gg, 0, none⟩) (n0 + 1) cap)) g b T m R M L (Bk.up W r (W r ++ [y])) (.slice (some ⟨d, 0, none⟩) m cc) ∧ Below B w (w1.setCell ⟨d, r, none⟩ (.slice (some ⟨gg, 0, none⟩) (n0 + 1) cap)) := by
  obtain ⟨h1, Q1, Q2, h2, h3, h4, h5, h6, h7, h8⟩ := h
  have hall : Q2 d ∧ (∀ x, Value.ownBlock (.slice A n0 C) = some x → Q2 x ∧ Ty w x 3) ∧ Ty w d 31 := by
    rcases h3 with ⟨q, _⟩ | ⟨d', c', F, e, _, hr', hd, q1, q2, _⟩
    · cases q
    · cases e
      have hF : F r = .slice A n0 C := by have := hr'.cell (show r < cc by omega); rw [hv] at this; exact (Option.some.inj this).symm
      refine ⟨hd, fun x ex => ?_, ty_row hr'⟩
      rw [← hF] at ex
      exact ⟨q2 r hr x ex, ty_own (q1 r hr) ex⟩
  obtain ⟨hQd, hQo, td⟩ := hall
  have far : ∀ j, j < w.heap.size → ¬ Value.ownBlock (.slice A n0 C) = some j → w1.heap[j]? = w.heap[j]? := fun j hj hn => by
    rw [hg.block j (by simp; omega) (fun e => hn e.symm)]
    exact ((Below.refl w.heap.size w).alloc (Nat.le_refl _) o).block j hj
  have far2 : ∀ j, j < w.heap.size → ¬ j = d → ¬ Value.ownBlock (.slice A n0 C) = some j → (w1.setCell ⟨d, r, none⟩ (.slice (some ⟨gg, 0, none⟩) (n0 + 1) cap)).heap[j]? = w.heap[j]? := fun j hj hd hn => by
    rw [Below.heap_setCell _ _ _ _ (show j ≠ d from hd)]
    exact far j hj hn
  have hb : Below B w (w1.setCell ⟨d, r, none⟩ (.slice (some ⟨gg, 0, none⟩) (n0 + 1) cap)) := ((((Below.refl B w).alloc h8 o).grown hg (by simp; omega) fun j hj => (h5 j (hQo j hj).1).1)).setCell (p := ⟨d, r, none⟩) (h5 d hQd).1 _
  have hs := hb.size
  refine ⟨⟨h1.stand fun j hj => ?_, Q1, fun q => (Q2 q ∨ w.heap.size ≤ q) ∧ q < (w1.setCell ⟨d, r, none⟩ (.slice (some ⟨gg, 0, none⟩) (n0 + 1) cap)).heap.size, h2.stand (far2 T h2.lt (h2.ty.ne td (by decide)) fun e => h2.ty.ne (hQo T e).2 (by decide) rfl) fun q hq ht => far2 q (h4 q hq).2.1 (fun e => (h4 q hq).2.2 (by rw [e]; exact hQd)) (fun e => (h4 q hq).2.2 (hQo q e).1),
    (h3.more hr hv (row_snoc ho hn) (fun x ex => ?_) far).mono fun q hl hq => ⟨hq, hl⟩, fun q hq => ⟨(h4 q hq).1, by have := (h4 q hq).2.1; omega, fun e => ?_⟩, fun q hq => ⟨?_, hq.2⟩, h6, h7, by omega⟩, hb⟩
  · rcases hj with t | t | t
    · exact far2 j t.lt (t.ne td (by decide)) fun e => t.ne (hQo j e).2 (by decide) rfl
    · exact far2 j t.lt (t.ne td (by decide)) fun e => t.ne (hQo j e).2 (by decide) rfl
    · exact far2 j t.lt (t.ne td (by decide)) fun e => t.ne (hQo j e).2 (by decide) rfl
  · have ex : some gg = some x := ex
    cases ex
    rcases hat with e | e
    · exact .inl e
    · exact .inr (by omega)
  · rcases e.1 with e1 | e1
    · exact (h4 q hq).2.2 e1
    · have := (h4 q hq).2.1; omega
  · rcases hq.1 with e1 | e1
    · exact (h5 q e1).1
    · omega
end Go.Proofs.Ytpifemahakbegaa
