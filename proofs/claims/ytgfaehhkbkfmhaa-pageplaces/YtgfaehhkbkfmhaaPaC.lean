/- Rows that are written over: what a page tells is its own (layer 8). -/
import Derived.Test.YtgfaehhkbkfmhaaPaB
import Derived.Test.YtgfaehhkbkfmhaaSlWorld
namespace Go.Proofs.Ytgfaehhkbkfmhaa
set_option linter.unusedVariables false
open Go.RowKit

/-- A row of numbers of kind k, whatever they are. -/
def Rw (k : IntKind) (t : TypeId) (w : World) (b d : Nat) : Prop := ∃ f : Nat → Int, w.rowIs b t d (fun j => .int k (f j))
theorem Rw.keep {k : IntKind} {t : TypeId} {w w' : World} {b d : Nat} (h : Rw k t w b d) (hb : Below w.heap.size w w') : Rw k t w' b d := by
  obtain ⟨f, hr⟩ := h
  exact ⟨f, row_keep hr hb⟩
theorem Rw.set {k : IntKind} {t : TypeId} {w : World} {b d : Nat} (h : Rw k t w b d) (b' j : Nat) (y : Int) : Rw k t (w.setCell ⟨b', j, none⟩ (.int k y)) b d := by
  obtain ⟨f, hr⟩ := h
  by_cases e : b = b'
  · subst e
    exact ⟨fun i => if i = j then y else f i, (hr.set j (.int k y)).congr (fun i hi => by by_cases e : i = j <;> simp [e])⟩
  · exact ⟨f, hr.setOther (by show b ≠ b'; exact e) _⟩
theorem Rw.at {k : IntKind} {t : TypeId} {w : World} {b d : Nat} (h : Rw k t w b d) {i : Nat} (hi : i < d) : (∃ y, w.cell? ⟨b, i, none⟩ = some (.int k y)) ∧ w.frozen? ⟨b, i, none⟩ = false := by
  obtain ⟨f, hr⟩ := h
  exact ⟨⟨f i, hr.cell hi⟩, hr.frozen i⟩
theorem cell_set_other {w : World} {b o b' j : Nat} {v y : Value} (h : w.cell? ⟨b, o, none⟩ = some v) (hb : ¬ b = b') : (w.setCell ⟨b', j, none⟩ y).cell? ⟨b, o, none⟩ = some v := by
  rw [World.cell?_of_block (w := w) (Go.Deep.blk_setCell_other _ _ _ _ (by show b ≠ b'; exact hb))]
  exact h
/-- A table at T of n rows of d numbers each, at blocks from B on that F holds of. -/
def LT (w : World) (T n d B : Nat) (F : Nat → Prop) : Prop := ∀ i, i < n → ∃ b, w.cell? ⟨T, i, none⟩ = some (.slice (some ⟨b, 0, none⟩) d d) ∧ B ≤ b ∧ F b ∧ Rw .i32 21 w b d
theorem LT.keep {w w' : World} {T n d B : Nat} {F : Nat → Prop} (h : LT w T n d B F) (hb : Below w.heap.size w w') : LT w' T n d B F := fun i hi => by
  obtain ⟨b, h1, h2, h3, h4⟩ := h i hi
  exact ⟨b, by rw [hb.cell (p := ⟨T, i, none⟩) (World.block_lt_of_cell? w _ h1)]; exact h1, h2, h3, h4.keep hb⟩
theorem LT.set {w : World} {T n d B : Nat} {F : Nat → Prop} (h : LT w T n d B F) {b' : Nat} (hT : ¬ T = b') (j : Nat) (y : Int) : LT (w.setCell ⟨b', j, none⟩ (.int .i32 y)) T n d B F := fun i hi => by
  obtain ⟨b, h1, h2, h3, h4⟩ := h i hi
  exact ⟨b, cell_set_other h1 hT, h2, h3, h4.set b' j y⟩
theorem TRow.loose {w : World} {g : Nat} {t : TypeId} {n d k : Nat} {G : Nat → Nat → Int} (h : TRow w g t n (Pg.tab n d G) n k) {B : Nat} {F : Nat → Prop} (hB : B ≤ g) (hF : ∀ b, g < b → b < w.heap.size → F b) : LT w g n d B F := fun i hi => by
  obtain ⟨f, hr, hc⟩ := h
  obtain ⟨b, h0, h1, h2, h3⟩ := hc i hi
  rw [Pg.row_tab hi, Ls.gen_length] at h0 h3
  exact ⟨b, by rw [hr.cell hi, h0], by omega, hF b h1 h3.lt, _, h3⟩
/-- A row of groups at K: n of them, their codes at blocks from B on that are not K. -/
def LG (w : World) (K n B : Nat) : Prop := ∀ i, i < n → ∃ b m z sc, w.cell? ⟨K, i * 3, none⟩ = some (.int .i32 z) ∧ w.cell? ⟨K, i * 3 + 1, none⟩ = some (.int .u32 sc) ∧ w.cell? ⟨K, i * 3 + 2, none⟩ = some (.slice (some ⟨b, 0, none⟩) m m) ∧ m ≤ 16 ∧ B ≤ b ∧ ¬ b = K ∧ Rw .i64 3 w b m
theorem LG.keep {w w' : World} {K n B : Nat} (h : LG w K n B) (hb : Below w.heap.size w w') : LG w' K n B := fun i hi => by
  obtain ⟨b, m, z, sc, h0, h1, h2, h3, h4, h5, h6⟩ := h i hi
  have hl := World.block_lt_of_cell? w _ h0
  exact ⟨b, m, z, sc, by rw [hb.cell (p := ⟨K, i * 3, none⟩) hl]; exact h0, by rw [hb.cell (p := ⟨K, i * 3 + 1, none⟩) hl]; exact h1, by rw [hb.cell (p := ⟨K, i * 3 + 2, none⟩) hl]; exact h2, h3, h4, h5, h6.keep hb⟩
theorem LG.set {w : World} {K n B : Nat} (h : LG w K n B) {b' : Nat} (hK : ¬ K = b') (j : Nat) (y : Int) : LG (w.setCell ⟨b', j, none⟩ (.int .i64 y)) K n B := fun i hi => by
  obtain ⟨b, m, z, sc, h0, h1, h2, h3, h4, h5, h6⟩ := h i hi
  exact ⟨b, m, z, sc, cell_set_other h0 hK, cell_set_other h1 hK, cell_set_other h2 hK, h3, h4, h5, h6.set b' j y⟩
/-- The cells of a row of groups, as a list. -/
theorem URow.list {w : World} {g : Nat} {t : TypeId} {N : Nat} {l : List (Int × Int × List Int)} (h : URow w g t N l l.length) (hN : N = l.length * 3) : ∃ xs : List Value, xs.length = l.length * 3 ∧ (∀ j u, xs[j]? = some u → w.cell? ((⟨g, 0, none⟩ : Addr).add j) = some u) ∧ (∀ u ∈ xs, u.oneCell' = true) ∧
    ∀ i, i < l.length → ∃ b z sc, xs[i * 3]? = some (.int .i32 z) ∧ xs[i * 3 + 1]? = some (.int .u32 sc) ∧ xs[i * 3 + 2]? = some (.slice (some ⟨b, 0, none⟩) (Pg.gc (Pg.nth l i)).length (Pg.gc (Pg.nth l i)).length) ∧ g < b ∧ Rw .i64 3 w b (Pg.gc (Pg.nth l i)).length := by
  obtain ⟨f, hr, hc⟩ := h
  subst hN
  have get : ∀ j, j < l.length * 3 → ((List.range (l.length * 3)).map f)[j]? = some (f j) := fun j hj => by simp [hj]
  refine ⟨(List.range (l.length * 3)).map f, by simp, fun j u hu => ?_, fun u hu => ?_, fun i hi => ?_⟩
  · have hj : j < l.length * 3 := by
      have := (List.getElem?_eq_some_iff.1 hu).1
      simpa using this
    rw [get j hj] at hu
    rw [Addr.add_lit, Nat.zero_add, hr.cell hj]
    exact hu
  · simp at hu
    obtain ⟨j, hj, rfl⟩ := hu
    obtain ⟨b, h0, h1, h2, _, _⟩ := hc (j / 3) (by omega)
    rcases (show j = j / 3 * 3 ∨ j = j / 3 * 3 + 1 ∨ j = j / 3 * 3 + 2 by omega) with e | e | e
    · rw [e, h0]; rfl
    · rw [e, h1]; rfl
    · rw [e, h2]; rfl
  · obtain ⟨b, h0, h1, h2, h3, h4⟩ := hc i hi
    exact ⟨b, _, _, by rw [get _ (by omega), h0], by rw [get _ (by omega), h1], by rw [get _ (by omega), h2], h3, _, h4⟩
/-- Two tables, and the list of both: what may be written over. -/
def LA (v w : World) (gk gv S n d : Nat) : Prop :=
  LT w gk n d v.heap.size (fun b => ¬ b = gk ∧ ¬ b = gv ∧ ¬ b = S) ∧ LT w gv n d v.heap.size (fun b => ¬ b = gk ∧ ¬ b = gv ∧ ¬ b = S) ∧ w.cell? ⟨S, 0, none⟩ = some (.slice (some ⟨gk, 0, none⟩) n n) ∧ w.cell? ⟨S, 1, none⟩ = some (.slice (some ⟨gv, 0, none⟩) n n) ∧ Below v.heap.size v w
theorem LA.set {v w : World} {gk gv S n d : Nat} (h : LA v w gk gv S n d) {b : Nat} (hb : v.heap.size ≤ b) (hF : ¬ b = gk ∧ ¬ b = gv ∧ ¬ b = S) (j : Nat) (y : Int) : LA v (w.setCell ⟨b, j, none⟩ (.int .i32 y)) gk gv S n d := by
  obtain ⟨h1, h2, h3, h4, h5⟩ := h
  exact ⟨h1.set (fun e => hF.1 e.symm) j y, h2.set (fun e => hF.2.1 e.symm) j y, cell_set_other h3 (fun e => hF.2.2 e.symm), cell_set_other h4 (fun e => hF.2.2 e.symm), h5.setCell (p := ⟨b, j, none⟩) hb _⟩
theorem LA.pick {v w : World} {gk gv S n d : Nat} (h : LA v w gk gv S n d) {k : Nat} (hk : k < 2) : ∃ T, (T = gk ∨ T = gv) ∧ w.cell? ⟨S, k, none⟩ = some (.slice (some ⟨T, 0, none⟩) n n) := by
  rcases (show k = 0 ∨ k = 1 by omega) with rfl | rfl
  · exact ⟨gk, .inl rfl, h.2.2.1⟩
  · exact ⟨gv, .inr rfl, h.2.2.2.1⟩
theorem LA.row {v w : World} {gk gv S n d T : Nat} (h : LA v w gk gv S n d) (hT : T = gk ∨ T = gv) {i : Nat} (hi : i < n) : ∃ b, w.cell? ⟨T, i, none⟩ = some (.slice (some ⟨b, 0, none⟩) d d) ∧ v.heap.size ≤ b ∧ (¬ b = gk ∧ ¬ b = gv ∧ ¬ b = S) ∧ Rw .i32 21 w b d := by
  rcases hT with rfl | rfl
  · exact h.1 i hi
  · exact h.2.1 i hi
/-- An own row of groups out of two. -/
theorem lg_own {w w' : World} {v : Value} {n m B k1 k2 : Nat} {xs ys : List Value} {l r : List (Int × Int × List Int)} {t : TypeId} (hown : w'.ownsRow w.heap.size t 3 v (n + m) (xs ++ ys)) (hg : w.grownBy w' none) (hn : l.length = n) (hm : r.length = m) (hpos : 0 < n) (hx : xs.length = n * 3) (hB1 : B ≤ k1) (hB2 : B ≤ k2)
    (h1 : ∀ i, i < l.length → ∃ b z sc, xs[i * 3]? = some (.int .i32 z) ∧ xs[i * 3 + 1]? = some (.int .u32 sc) ∧ xs[i * 3 + 2]? = some (.slice (some ⟨b, 0, none⟩) (Pg.gc (Pg.nth l i)).length (Pg.gc (Pg.nth l i)).length) ∧ k1 < b ∧ Rw .i64 3 w b (Pg.gc (Pg.nth l i)).length)
    (h2 : ∀ i, i < r.length → ∃ b z sc, ys[i * 3]? = some (.int .i32 z) ∧ ys[i * 3 + 1]? = some (.int .u32 sc) ∧ ys[i * 3 + 2]? = some (.slice (some ⟨b, 0, none⟩) (Pg.gc (Pg.nth r i)).length (Pg.gc (Pg.nth r i)).length) ∧ k2 < b ∧ Rw .i64 3 w b (Pg.gc (Pg.nth r i)).length)
    (l1 : ∀ i, i < l.length → (Pg.gc (Pg.nth l i)).length ≤ 16) (l2 : ∀ i, i < r.length → (Pg.gc (Pg.nth r i)).length ≤ 16) :
    ∃ K c, v = .slice (some ⟨K, 0, none⟩) (n + m) c ∧ w.heap.size ≤ K ∧ LG w' K (n + m) B := by
  have hb : Below w.heap.size w w' := (Below.refl _ _).grown hg (Nat.le_refl _) (fun k hk => by cases hk)
  rcases hown.2 with ⟨_, h0⟩ | ⟨K, cap, cur, e, hK, hh, q1, q2, q3, q4⟩
  · omega
  have cell : ∀ j u, (xs ++ ys)[j]? = some u → w'.cell? ⟨K, j, none⟩ = some u := fun j u hu => by
    rw [cell_of_row w' K j cur t (0, 0) hh]
    rw [← q4] at hu
    have hj : j < (n + m) * 3 := by
      have := (List.getElem?_eq_some_iff.1 hu).1
      simp at this
      omega
    rw [List.getElem?_take, if_pos hj] at hu
    simpa using hu
  have lt : ∀ {b d : Nat}, Rw .i64 3 w b d → b < w.heap.size := fun h => by obtain ⟨f, hr⟩ := h; exact hr.lt
  refine ⟨K, cap, e, hK, fun i hi => ?_⟩
  by_cases hin : i < n
  · obtain ⟨b, z, sc, c0, c1, c2, c3, c4⟩ := h1 i (by omega)
    have := lt c4
    exact ⟨b, _, z, sc, cell _ _ (by rw [List.getElem?_append_left (by omega)]; exact c0), cell _ _ (by rw [List.getElem?_append_left (by omega)]; exact c1), cell _ _ (by rw [List.getElem?_append_left (by omega)]; exact c2), l1 i (by omega), by omega, by omega, c4.keep hb⟩
  · obtain ⟨b, z, sc, c0, c1, c2, c3, c4⟩ := h2 (i - n) (by omega)
    have := lt c4
    exact ⟨b, _, z, sc, cell _ _ (by rw [List.getElem?_append_right (by omega), hx, show i * 3 - n * 3 = (i - n) * 3 by omega]; exact c0), cell _ _ (by rw [List.getElem?_append_right (by omega), hx, show i * 3 + 1 - n * 3 = (i - n) * 3 + 1 by omega]; exact c1), cell _ _ (by rw [List.getElem?_append_right (by omega), hx, show i * 3 + 2 - n * 3 = (i - n) * 3 + 2 by omega]; exact c2), l2 (i - n) (by omega), by omega, by omega, c4.keep hb⟩
end Go.Proofs.Ytgfaehhkbkfmhaa
