/- Plain arithmetic of layer 10: counts of those that hold, in a list. -/
import Derived.Test.YtpifemahakbegaaLsMath
import Derived.Test.YtpifemahakbegaaPaA
import Derived.Laws.LoneSync
namespace Go.Proofs.Ytpifemahakbegaa
set_option linter.unusedVariables false
namespace Po
open Ls (nth)

theorem nth_set {l : List Int} {p : Nat} (hp : p < l.length) (c : Int) (j : Nat) : nth (l.set p c) j = if j = p then c else nth l j := by
  unfold Ls.nth
  by_cases e : j = p
  · subst e; simp [hp]
  · rw [if_neg e]
    simp [show ¬ p = j from fun x => e x.symm]
theorem set_same {l : List Int} {p : Nat} (hp : p < l.length) : l.set p (nth l p) = l := by
  refine Ls.ext_nth (by simp) fun i hi => ?_
  rw [nth_set hp]
  split
  · rename_i e; rw [e]
  · rfl
theorem set_set {l : List Int} (p : Nat) (x y : Int) : (l.set p x).set p y = l.set p y := by simp

/-- How many of the first k places are 0. -/
def cntN (l : List Int) : Nat → Nat
  | 0 => 0
  | k + 1 => cntN l k + if nth l k = 0 then 1 else 0
def cnt (l : List Int) : Nat := cntN l l.length
/-- The places among the first k that are above 0. -/
def usedN (l : List Int) : Nat → List Int
  | 0 => []
  | k + 1 => usedN l k ++ if 0 < nth l k then [(k : Int)] else []
def used (l : List Int) : List Int := usedN l l.length

theorem cntN_le (l : List Int) (k : Nat) : cntN l k ≤ k := by
  induction k with
  | zero => exact Nat.le_refl _
  | succ k ih => unfold cntN; split <;> omega
theorem usedN_le (l : List Int) (k : Nat) : (usedN l k).length ≤ k := by
  induction k with
  | zero => exact Nat.le_refl _
  | succ k ih => unfold usedN; split <;> simp <;> omega
theorem used_le (l : List Int) : (used l).length ≤ l.length := usedN_le _ _
theorem cnt_le (l : List Int) : cnt l ≤ l.length := cntN_le _ _
theorem both (l : List Int) (h : ∀ i, 0 ≤ nth l i) (k : Nat) : cntN l k + (usedN l k).length = k := by
  induction k with
  | zero => rfl
  | succ k ih =>
    unfold cntN usedN
    have := h k
    by_cases e : nth l k = 0
    · rw [if_pos e, if_neg (by omega)]; simp; omega
    · rw [if_neg e, if_pos (by omega)]; simp; omega
theorem cnt_used {l : List Int} (h : ∀ i, 0 ≤ nth l i) : cnt l + (used l).length = l.length := both l h _
theorem cntN_yes {l : List Int} {k : Nat} (h : nth l k = 0) : cntN l (k + 1) = cntN l k + 1 := by show cntN l k + _ = _; rw [if_pos h]
theorem cntN_no {l : List Int} {k : Nat} (h : ¬ nth l k = 0) : cntN l (k + 1) = cntN l k := by show cntN l k + _ = _; rw [if_neg h]; rfl
theorem usedN_yes {l : List Int} {k : Nat} (h : 0 < nth l k) : usedN l (k + 1) = usedN l k ++ [(k : Int)] := by show usedN l k ++ _ = _; rw [if_pos h]
theorem usedN_no {l : List Int} {k : Nat} (h : ¬ 0 < nth l k) : usedN l (k + 1) = usedN l k := by show usedN l k ++ _ = _; rw [if_neg h]; simp
theorem cntN_set_past {l : List Int} {p k : Nat} (hp : p < l.length) (h : k ≤ p) (c : Int) : cntN (l.set p c) k = cntN l k := by
  induction k with
  | zero => rfl
  | succ k ih =>
    show cntN _ k + _ = cntN _ k + _
    rw [ih (by omega), nth_set hp, if_neg (show ¬ k = p by omega)]
theorem cntN_set {l : List Int} {p k : Nat} (hp : p < l.length) (h : p < k) (c : Int) : cntN (l.set p c) k + (if nth l p = 0 then 1 else 0) = cntN l k + (if c = 0 then 1 else 0) := by
  induction k with
  | zero => omega
  | succ k ih =>
    show cntN _ k + _ + _ = cntN _ k + _ + _
    rw [nth_set hp]
    by_cases e : k = p
    · subst e
      rw [cntN_set_past hp (Nat.le_refl _), if_pos (show k = k from rfl)]
      omega
    · rw [if_neg e]
      have := ih (by omega)
      omega
theorem cnt_set {l : List Int} {p : Nat} (hp : p < l.length) (c : Int) : cnt (l.set p c) + (if nth l p = 0 then 1 else 0) = cnt l + (if c = 0 then 1 else 0) := by
  unfold cnt
  rw [List.length_set]
  exact cntN_set hp hp c
theorem cntN_none {l : List Int} {k : Nat} (h : ∀ i, i < k → ¬ nth l i = 0) : cntN l k = 0 := by
  induction k with
  | zero => rfl
  | succ k ih => rw [cntN_no (h k (by omega))]; exact ih fun i hi => h i (by omega)
theorem cntN_all {l : List Int} {k : Nat} (h : ∀ i, i < k → nth l i = 0) : cntN l k = k := by
  induction k with
  | zero => rfl
  | succ k ih => rw [cntN_yes (h k (by omega)), ih fun i hi => h i (by omega)]
theorem cnt_zero {l : List Int} (h : ∀ i, i < l.length → ¬ nth l i = 0) : cnt l = 0 := cntN_none h
theorem cnt_pos {l : List Int} {k : Nat} (hk : k < l.length) (h : nth l k = 0) : 0 < cnt l := by
  have := cnt_set hk 1
  rw [if_pos h, if_neg (by decide)] at this
  omega

/-- Of so many free slots. -/
def zeros (n : Nat) : List Int := Ls.gen n fun _ => 0
theorem zeros_length (n : Nat) : (zeros n).length = n := Ls.gen_length _ _
theorem nth_zeros (n i : Nat) : nth (zeros n) i = 0 := by
  by_cases h : i < n
  · exact Ls.nth_gen h
  · exact Ls.nth_past (by rw [zeros_length]; omega)
theorem cnt_zeros (n : Nat) : cnt (zeros n) = n := by unfold cnt; rw [zeros_length]; exact cntN_all fun i _ => nth_zeros n i

/-- The first free slot, or none. -/
theorem free_cases (l : List Int) : (∀ i, i < l.length → ¬ nth l i = 0) ∨ ∃ k, k < l.length ∧ nth l k = 0 ∧ ∀ i, i < k → ¬ nth l i = 0 := by
  have key : ∀ n, n ≤ l.length → (∀ i, i < n → ¬ nth l i = 0) ∨ ∃ k, k < n ∧ nth l k = 0 ∧ ∀ i, i < k → ¬ nth l i = 0 := by
    intro n
    induction n with
    | zero => intro _; exact Or.inl fun i hi => by omega
    | succ n ih =>
      intro hn
      rcases ih (by omega) with h | ⟨k, hk, h0, h1⟩
      · by_cases e : nth l n = 0
        · exact Or.inr ⟨n, by omega, e, h⟩
        · refine Or.inl fun i hi => ?_
          by_cases e2 : i = n
          · rw [e2]; exact e
          · exact h i (by omega)
      · exact Or.inr ⟨k, by omega, h0, h1⟩
  exact key _ (Nat.le_refl _)

/-- A number's mark. -/
def mk (n : Int) : Int := n % 1024
theorem mk_bd (n : Int) : 0 ≤ mk n ∧ mk n ≤ 1023 := by unfold mk; omega
theorem mk_small {n : Int} (h0 : 0 ≤ n) (h1 : n ≤ 1023) : mk n = n := by unfold mk; omega
end Po
end Go.Proofs.Ytpifemahakbegaa
/- A pool in memory (layer 10): its cells, its slots, the pages that lie in them. -/
namespace Go.Proofs.Ytpifemahakbegaa
set_option linter.unusedVariables false
open Go.RowKit

/-- A PAGE WITH A MARK LIES AT BLOCK q: its head's seven numbers, the last one the mark. -/
def PgM (w : World) (q : Nat) (m : Int) : Prop :=
  ∃ (f : Nat → Value) (x0 x1 x2 x3 x4 x5 : Int), w.rowIs q 91 9 f ∧ f 0 = .int .i64 x0 ∧ f 1 = .int .i64 x1 ∧ f 2 = .int .i64 x2 ∧ f 3 = .int .i64 x3 ∧ f 4 = .int .i64 x4 ∧ f 5 = .int .i64 x5 ∧ f 6 = .int .i64 m
theorem PgM.lt {w : World} {q : Nat} {m : Int} (h : PgM w q m) : q < w.heap.size := by
  obtain ⟨f, _, _, _, _, _, _, hr, _⟩ := h
  exact hr.lt
theorem PgM.of_block {w w' : World} {q : Nat} {m : Int} (h : PgM w q m) (hb : w'.heap[q]? = w.heap[q]?) : PgM w' q m := by
  obtain ⟨f, x0, x1, x2, x3, x4, x5, hr, h'⟩ := h
  exact ⟨f, x0, x1, x2, x3, x4, x5, hr.of_block hb, h'⟩
theorem PgM.keep {w w' : World} {q : Nat} {m : Int} (h : PgM w q m) (hb : Below w.heap.size w w') : PgM w' q m := h.of_block (hb.block q h.lt)
theorem PageAt.mark {w : World} {p m0 m1 n d : Nat} {h4 h5 h6 : Int} {ks vs : List (Int × Int × List Int)} (h : PageAt w p m0 m1 n d h4 h5 h6 ks vs) : PgM w p h6 := by
  obtain ⟨g1, g2, hr, _⟩ := h
  exact ⟨_, _, _, _, _, _, _, hr, rfl, rfl, rfl, rfl, rfl, rfl, rfl⟩

/-- ALL BLOCKS BUT g AND b STAND. -/
def But2 (g b : Nat) (w w' : World) : Prop := Below (min g b) w w' ∧ ∀ j, j < w.heap.size → ¬ j = g → ¬ j = b → w'.heap[j]? = w.heap[j]?
theorem But2.refl (g b : Nat) (w : World) : But2 g b w w := ⟨Below.refl _ _, fun _ _ _ _ => rfl⟩
theorem But2.size {g b : Nat} {w w' : World} (h : But2 g b w w') : w.heap.size ≤ w'.heap.size := h.1.size
theorem But2.trans {g b : Nat} {w v u : World} (h : But2 g b w v) (k : But2 g b v u) : But2 g b w u :=
  ⟨h.1.trans k.1, fun j hj h1 h2 => by rw [k.2 j (Nat.lt_of_lt_of_le hj h.size) h1 h2, h.2 j hj h1 h2]⟩
theorem But2.of_below {g b : Nat} {w v : World} (h : Below w.heap.size w v) (hg : min g b ≤ w.heap.size) : But2 g b w v := ⟨h.mono hg, fun j hj _ _ => h.block j hj⟩
theorem But2.then {g b : Nat} {w v u : World} (h : But2 g b w v) (hb : Below v.heap.size v u) (hg : min g b ≤ v.heap.size) : But2 g b w u := h.trans (But2.of_below hb hg)
theorem But2.below {g b B : Nat} {w v : World} (h : But2 g b w v) (hg : B ≤ g) (hb : B ≤ b) : Below B w v := h.1.mono (by omega)
theorem But2.setG {g b : Nat} {w v : World} (h : But2 g b w v) (o : Nat) (y : Value) : But2 g b w (v.setCell ⟨g, o, none⟩ y) :=
  ⟨h.1.setCell (p := ⟨g, o, none⟩) (Nat.min_le_left _ _) y, fun j hj h1 h2 => by rw [Below.heap_setCell _ _ _ _ (show j ≠ g from h1), h.2 j hj h1 h2]⟩
theorem But2.setB {g b : Nat} {w v : World} (h : But2 g b w v) (o : Nat) (y : Value) : But2 g b w (v.setCell ⟨b, o, none⟩ y) :=
  ⟨h.1.setCell (p := ⟨b, o, none⟩) (Nat.min_le_right _ _) y, fun j hj h1 h2 => by rw [Below.heap_setCell _ _ _ _ (show j ≠ b from h2), h.2 j hj h1 h2]⟩
/-- A list that lies elsewhere. -/
def Off (g b : Nat) (a : Option Addr) : Prop := ∀ x, a = some x → ¬ x.block = g ∧ ¬ x.block = b
theorem Off.none (g b : Nat) : Off g b Option.none := fun x e => nomatch e
theorem But2.lst {g b : Nat} {w v : World} (h : But2 g b w v) {k : IntKind} {a : Option Addr} {l : List Int} (hl : Lst k w a l) (hp : Off g b a) : Lst k v a l := fun i hi => by
  obtain ⟨c, o, e, hc⟩ := hl i hi
  refine ⟨c, o, e, ?_⟩
  have := hp _ e
  rw [World.cell?_of_block (w := w) (h.2 c (World.block_lt_of_cell? w _ hc) this.1 this.2)]
  exact hc
theorem But2.row {g b : Nat} {w v : World} (h : But2 g b w v) {c : Nat} {t : TypeId} {n : Nat} {f : Nat → Value} (hr : w.rowIs c t n f) (h1 : ¬ c = g) (h2 : ¬ c = b) : v.rowIs c t n f := hr.of_block (h.2 c hr.lt h1 h2)

/-- The two cells of a pool. -/
def poc (b n : Nat) (f : Int) (i : Nat) : Value := if i = 0 then .slice (some ⟨b, 0, none⟩) n n else .int .i64 f
/-- The cells of its slots: a page, and how often it is held. -/
def slc (P : Nat → Value) (R : List Int) (j : Nat) : Value := if j % 2 = 0 then P (j / 2) else .int .i64 (Ls.nth R (j / 2))
theorem slc_page (P : Nat → Value) (R : List Int) (k : Nat) : slc P R (k * 2) = P k := by unfold slc; rw [if_pos (by omega), show k * 2 / 2 = k by omega]
theorem slc_refs (P : Nat → Value) (R : List Int) (k : Nat) : slc P R (k * 2 + 1) = .int .i64 (Ls.nth R k) := by unfold slc; rw [if_neg (by omega), show (k * 2 + 1) / 2 = k by omega]
/-- A POOL LIES AT BLOCK g, its n slots at block b: slot i is held R i times, its page has the mark M i. -/
def PoolAt (w : World) (g b n : Nat) (R M : List Int) : Prop :=
  ∃ P, w.rowIs g 74 2 (poc b n (Po.cnt R)) ∧ w.rowIs b 86 (n * 2) (slc P R) ∧ ¬ b = g ∧ R.length = n ∧ M.length = n ∧ n ≤ 16384 ∧ (∀ i, 0 ≤ Ls.nth R i) ∧
    ∀ i, i < n → 0 < Ls.nth R i → ∃ q, P i = .pointer (some ⟨q, 0, none⟩) ∧ ¬ q = g ∧ ¬ q = b ∧ PgM w q (Ls.nth M i)
theorem PoolAt.lt {w : World} {g b n : Nat} {R M : List Int} (h : PoolAt w g b n R M) : g < w.heap.size ∧ b < w.heap.size := by
  obtain ⟨P, h1, h2, _⟩ := h
  exact ⟨h1.lt, h2.lt⟩
theorem PoolAt.nums {w : World} {g b n : Nat} {R M : List Int} (h : PoolAt w g b n R M) : ¬ b = g ∧ R.length = n ∧ M.length = n ∧ n ≤ 16384 ∧ ∀ i, 0 ≤ Ls.nth R i := by
  obtain ⟨P, _, _, h1, h2, h3, h4, h5, _⟩ := h
  exact ⟨h1, h2, h3, h4, h5⟩
theorem PoolAt.keep {w w' : World} {g b n : Nat} {R M : List Int} (h : PoolAt w g b n R M) (hb : Below w.heap.size w w') : PoolAt w' g b n R M := by
  obtain ⟨P, h1, h2, h3, h4, h5, h6, h7, h8⟩ := h
  refine ⟨P, h1.of_block (hb.block g h1.lt), h2.of_block (hb.block b h2.lt), h3, h4, h5, h6, h7, fun i hi hr => ?_⟩
  obtain ⟨q, e, n1, n2, hq⟩ := h8 i hi hr
  exact ⟨q, e, n1, n2, hq.keep hb⟩
/-- What the pool's own cells hold. -/
theorem PoolAt.cells {w : World} {g b n : Nat} {R M : List Int} (h : PoolAt w g b n R M) :
    w.cell? ⟨g, 0, none⟩ = some (.slice (some ⟨b, 0, none⟩) n n) ∧ w.cell? ⟨g, 1, none⟩ = some (.int .i64 (Po.cnt R)) ∧ w.frozen? ⟨g, 1, none⟩ = false := by
  obtain ⟨P, h1, _⟩ := h
  exact ⟨by rw [h1.cell (show 0 < 2 by decide)]; rfl, by rw [h1.cell (show 1 < 2 by decide)]; rfl, h1.frozen 1⟩
/-- What a slot's cells hold. -/
theorem PoolAt.slot {w : World} {g b n : Nat} {R M : List Int} (h : PoolAt w g b n R M) {k : Nat} (hk : k < n) :
    (∃ v, w.cell? ⟨b, k * 2, none⟩ = some v) ∧ w.cell? ⟨b, k * 2 + 1, none⟩ = some (.int .i64 (Ls.nth R k)) ∧ w.frozen? ⟨b, k * 2, none⟩ = false ∧ w.frozen? ⟨b, k * 2 + 1, none⟩ = false := by
  obtain ⟨P, _, h2, _⟩ := h
  exact ⟨⟨_, h2.cell (by omega)⟩, by rw [h2.cell (by omega), slc_refs], h2.frozen _, h2.frozen _⟩
theorem PoolAt.page {w : World} {g b n : Nat} {R M : List Int} (h : PoolAt w g b n R M) {k : Nat} (hk : k < n) (hr : 0 < Ls.nth R k) :
    ∃ q, w.cell? ⟨b, k * 2, none⟩ = some (.pointer (some ⟨q, 0, none⟩)) ∧ ¬ q = g ∧ ¬ q = b ∧ PgM w q (Ls.nth M k) := by
  obtain ⟨P, _, h2, _, _, _, _, _, h8⟩ := h
  obtain ⟨q, e, n1, n2, hq⟩ := h8 k hk hr
  exact ⟨q, by rw [h2.cell (by omega), slc_page, e], n1, n2, hq⟩
theorem PoolAt.drew {w : World} {g b n : Nat} {R M : List Int} (h : PoolAt w g b n R M) : PoolAt w.drew g b n R M := h.keep ((Below.refl _ _).drew)

theorem poc_set (b n : Nat) (f f' : Int) (j : Nat) (hj : j < 2) : (if j = 1 then .int .i64 f' else poc b n f j) = poc b n f' j := by
  match j, hj with
  | 0, _ => rfl
  | 1, _ => rfl
/-- Held once more, or once less, but not down to nought. -/
theorem PoolAt.count {w : World} {g b n : Nat} {R M : List Int} (h : PoolAt w g b n R M) {k : Nat} (hk : k < n) {x : Int} (h0 : 0 < Ls.nth R k) (hx : 0 < x) :
    PoolAt (w.setCell ⟨b, k * 2 + 1, none⟩ (.int .i64 x)) g b n (R.set k x) M := by
  obtain ⟨P, h1, h2, h3, h4, h5, h6, h7, h8⟩ := h
  have hkR : k < R.length := by omega
  have hc : Po.cnt (R.set k x) = Po.cnt R := by have := Po.cnt_set hkR x; rw [if_neg (by omega), if_neg (by omega)] at this; omega
  refine ⟨P, ?_, (h2.set (k * 2 + 1) _).congr ?_, h3, by simp [h4], h5, h6, ?_, ?_⟩
  · rw [hc]; exact h1.of_block (Below.heap_setCell _ _ _ _ (show g ≠ b from fun e => h3 e.symm))
  · intro j hj
    unfold slc
    by_cases e : j = k * 2 + 1
    · subst e; rw [if_pos rfl, if_neg (by omega), show (k * 2 + 1) / 2 = k by omega, Po.nth_set hkR, if_pos rfl]
    · rw [if_neg e]
      by_cases e2 : j % 2 = 0
      · rw [if_pos e2, if_pos e2]
      · rw [if_neg e2, if_neg e2, Po.nth_set hkR, if_neg (by omega)]
  · intro i; rw [Po.nth_set hkR]; split
    · omega
    · exact h7 i
  · intro i hi hr
    have hr' : 0 < Ls.nth R i := by
      rw [Po.nth_set hkR] at hr
      by_cases e : i = k
      · rw [e]; exact h0
      · rw [if_neg e] at hr; exact hr
    obtain ⟨q, e, n1, n2, hq⟩ := h8 i hi hr'
    exact ⟨q, e, n1, n2, hq.of_block (Below.heap_setCell _ _ _ _ n2)⟩
/-- A page put into a free slot. -/
theorem PoolAt.put {w : World} {g b n : Nat} {R M : List Int} (h : PoolAt w g b n R M) {k : Nat} (hk : k < n) (h0 : Ls.nth R k = 0) {q : Nat} {m : Int} (hq : PgM w q m) (q1 : ¬ q = g) (q2 : ¬ q = b) {c : Int} (ec : c = (Po.cnt R : Int) - 1) :
    PoolAt (((w.setCell ⟨b, k * 2, none⟩ (.pointer (some ⟨q, 0, none⟩))).setCell ⟨b, k * 2 + 1, none⟩ (.int .i64 1)).setCell ⟨g, 1, none⟩ (.int .i64 c)) g b n (R.set k 1) (M.set k m) := by
  obtain ⟨P, h1, h2, h3, h4, h5, h6, h7, h8⟩ := h
  have hkR : k < R.length := by omega
  have hkM : k < M.length := by omega
  have hc : (Po.cnt (R.set k 1) : Int) = c := by have := Po.cnt_set hkR 1; rw [if_pos h0, if_neg (by decide)] at this; omega
  have step : ∀ j, ¬ j = g → ¬ j = b → (((w.setCell ⟨b, k * 2, none⟩ (.pointer (some ⟨q, 0, none⟩))).setCell ⟨b, k * 2 + 1, none⟩ (.int .i64 1)).setCell ⟨g, 1, none⟩ (.int .i64 c)).heap[j]? = w.heap[j]? := fun j n1 n2 => by
    rw [Below.heap_setCell _ _ _ _ (show j ≠ g from n1), Below.heap_setCell _ _ _ _ (show j ≠ b from n2), Below.heap_setCell _ _ _ _ (show j ≠ b from n2)]
  have hg : ((w.setCell ⟨b, k * 2, none⟩ (.pointer (some ⟨q, 0, none⟩))).setCell ⟨b, k * 2 + 1, none⟩ (.int .i64 1)).rowIs g 74 2 (poc b n (Po.cnt R)) :=
    h1.of_block (by rw [Below.heap_setCell _ _ _ _ (show g ≠ b from fun e => h3 e.symm), Below.heap_setCell _ _ _ _ (show g ≠ b from fun e => h3 e.symm)])
  refine ⟨fun i => if i = k then .pointer (some ⟨q, 0, none⟩) else P i, ?_, ?_, h3, by simp [h4], by simp [h5], h6, ?_, ?_⟩
  · refine (hg.set 1 (.int .i64 c)).congr fun j hj => ?_
    rw [poc_set _ _ _ _ _ hj, hc]
  · refine (((h2.set (k * 2) _).set (k * 2 + 1) _).congr ?_).of_block (Below.heap_setCell _ _ _ _ (show b ≠ g from h3))
    intro j hj
    unfold slc
    by_cases e : j = k * 2 + 1
    · subst e; rw [if_pos rfl, if_neg (by omega), show (k * 2 + 1) / 2 = k by omega, Po.nth_set hkR, if_pos rfl]
    · rw [if_neg e]
      by_cases e2 : j = k * 2
      · subst e2; rw [if_pos rfl, if_pos (by omega)]; exact (if_pos (by omega)).symm
      · rw [if_neg e2]
        by_cases e3 : j % 2 = 0
        · rw [if_pos e3, if_pos e3]; exact (if_neg (by omega)).symm
        · rw [if_neg e3, if_neg e3, Po.nth_set hkR, if_neg (by omega)]
  · intro i; rw [Po.nth_set hkR]; split
    · omega
    · exact h7 i
  · intro i hi hr
    rw [Po.nth_set hkR] at hr
    rw [Po.nth_set hkM]
    by_cases e : i = k
    · rw [if_pos e]
      exact ⟨q, if_pos e, q1, q2, hq.of_block (step q q1 q2)⟩
    · rw [if_neg e] at hr
      rw [if_neg e]
      obtain ⟨p, e1, n1, n2, hp⟩ := h8 i hi hr
      exact ⟨p, (if_neg e).trans e1, n1, n2, hp.of_block (step p n1 n2)⟩
/-- The last one that held it is gone. -/
theorem PoolAt.gone {w : World} {g b n : Nat} {R M : List Int} (h : PoolAt w g b n R M) {k : Nat} (hk : k < n) (h0 : Ls.nth R k = 1) {c : Int} (ec : c = (Po.cnt R : Int) + 1) :
    PoolAt (((w.setCell ⟨b, k * 2 + 1, none⟩ (.int .i64 0)).setCell ⟨b, k * 2, none⟩ (.pointer none)).setCell ⟨g, 1, none⟩ (.int .i64 c)) g b n (R.set k 0) M := by
  obtain ⟨P, h1, h2, h3, h4, h5, h6, h7, h8⟩ := h
  have hkR : k < R.length := by omega
  have hc : (Po.cnt (R.set k 0) : Int) = c := by have := Po.cnt_set hkR 0; rw [if_neg (by omega), if_pos rfl] at this; omega
  have step : ∀ j, ¬ j = g → ¬ j = b → (((w.setCell ⟨b, k * 2 + 1, none⟩ (.int .i64 0)).setCell ⟨b, k * 2, none⟩ (.pointer none)).setCell ⟨g, 1, none⟩ (.int .i64 c)).heap[j]? = w.heap[j]? := fun j n1 n2 => by
    rw [Below.heap_setCell _ _ _ _ (show j ≠ g from n1), Below.heap_setCell _ _ _ _ (show j ≠ b from n2), Below.heap_setCell _ _ _ _ (show j ≠ b from n2)]
  have hg : ((w.setCell ⟨b, k * 2 + 1, none⟩ (.int .i64 0)).setCell ⟨b, k * 2, none⟩ (.pointer none)).rowIs g 74 2 (poc b n (Po.cnt R)) :=
    h1.of_block (by rw [Below.heap_setCell _ _ _ _ (show g ≠ b from fun e => h3 e.symm), Below.heap_setCell _ _ _ _ (show g ≠ b from fun e => h3 e.symm)])
  refine ⟨fun i => if i = k then .pointer none else P i, ?_, ?_, h3, by simp [h4], h5, h6, ?_, ?_⟩
  · refine (hg.set 1 (.int .i64 c)).congr fun j hj => ?_
    rw [poc_set _ _ _ _ _ hj, hc]
  · refine (((h2.set (k * 2 + 1) _).set (k * 2) _).congr ?_).of_block (Below.heap_setCell _ _ _ _ (show b ≠ g from h3))
    intro j hj
    unfold slc
    by_cases e2 : j = k * 2
    · subst e2; rw [if_pos rfl, if_pos (by omega)]; exact (if_pos (by omega)).symm
    · rw [if_neg e2]
      by_cases e : j = k * 2 + 1
      · subst e; rw [if_pos rfl, if_neg (by omega), show (k * 2 + 1) / 2 = k by omega, Po.nth_set hkR, if_pos rfl]
      · rw [if_neg e]
        by_cases e3 : j % 2 = 0
        · rw [if_pos e3, if_pos e3]; exact (if_neg (by omega)).symm
        · rw [if_neg e3, if_neg e3, Po.nth_set hkR, if_neg (by omega)]
  · intro i; rw [Po.nth_set hkR]; split
    · omega
    · exact h7 i
  · intro i hi hr
    rw [Po.nth_set hkR] at hr
    by_cases e : i = k
    · rw [if_pos e] at hr; omega
    · rw [if_neg e] at hr
      obtain ⟨p, e1, n1, n2, hp⟩ := h8 i hi hr
      exact ⟨p, (if_neg e).trans e1, n1, n2, hp.of_block (step p n1 n2)⟩
/-- A pool that was just made. -/
theorem PoolAt.made {w : World} {g b n : Nat} {zs : Array Value} (hz : zs = #[.pointer none, .int .i64 0]) (h1 : w.rowIs g 74 2 (poc b n n)) (h2 : w.rowIs b 86 (n * 2) (fun j => zs[j % zs.size]!)) (h3 : ¬ b = g) (hn : n ≤ 16384) : PoolAt w g b n (Po.zeros n) (Po.zeros n) := by
  subst hz
  refine ⟨fun _ => .pointer none, by rw [Po.cnt_zeros]; exact h1, h2.congr ?_, h3, Po.zeros_length n, Po.zeros_length n, hn, fun i => by rw [Po.nth_zeros]; omega, fun i hi hr => by rw [Po.nth_zeros] at hr; omega⟩
  intro j hj
  unfold slc
  show #[Value.pointer none, .int .i64 0][j % 2]! = _
  have : j % 2 = 0 ∨ j % 2 = 1 := by omega
  rcases this with e | e
  · rw [e]; rfl
  · rw [e, Po.nth_zeros]; rfl
end Go.Proofs.Ytpifemahakbegaa
/- Contracts of package pool (layer 10), and of the atomic counters it keeps. -/
namespace Go.Proofs.Ytpifemahakbegaa
set_option linter.unusedVariables false
open Go.RowKit

theorem loadA_any (g o : Nat) (x : Int) (w : World) (hc : w.cell? ⟨g, o, none⟩ = some (.int .i64 x)) :
    Calls Try.prog 32 #[.pointer (some ⟨g, o, none⟩)] w fun e w' => e = .returned (.int .i64 x) ∧ w' = w := by
  have hl := run_call_load (P := Try.prog) Try.func45 (by kernel_rfl) (by kernel_rfl) (by kernel_rfl) .i64 (by kernel_rfl) hc
  go_enter Try.func32, Try.ntmps32
  go_wp2
  go_ret
  exact ⟨rfl, rfl⟩
theorem storeA_any (g o : Nat) (x y : Int) (w : World) (hc : w.cell? ⟨g, o, none⟩ = some (.int .i64 x)) (hf : w.frozen? ⟨g, o, none⟩ = false) :
    Calls Try.prog 40 #[.pointer (some ⟨g, o, none⟩), .int .i64 y] w fun e w' => e = .returned (.tuple #[]) ∧ w' = w.setCell ⟨g, o, none⟩ (.int .i64 y) := by
  have hl := run_call_store (P := Try.prog) (y := y) (k := .i64) Try.func51 (by kernel_rfl) (by kernel_rfl) (by kernel_rfl) (by kernel_rfl) hc hf
  go_enter Try.func40, Try.ntmps40
  go_wp2
  go_end0
  exact ⟨rfl, rfl⟩
theorem addA_any (g o : Nat) (x y s : Int) (es : x + y = s) (h1 : -9223372036854775808 ≤ s) (h2 : s ≤ 9223372036854775807) (w : World) (hc : w.cell? ⟨g, o, none⟩ = some (.int .i64 x)) (hf : w.frozen? ⟨g, o, none⟩ = false) :
    Calls Try.prog 43 #[.pointer (some ⟨g, o, none⟩), .int .i64 y] w fun e w' => e = .returned (.int .i64 s) ∧ w' = w.setCell ⟨g, o, none⟩ (.int .i64 s) := by
  have hs : (Op.intArith .add .i64 x y).run Try.prog w = .ok (.int .i64 s) w := by
    simp [go_sem, IntKind.wrap_i64]
    omega
  have hl := run_call_add (P := Try.prog) Try.func53 (by kernel_rfl) (by kernel_rfl) (by kernel_rfl) .i64 (by kernel_rfl) hc hf hs
  go_enter Try.func43, Try.ntmps43
  go_wp2
  go_ret
  exact ⟨rfl, rfl⟩

theorem newPool_bad (n : Int) (h : n < 0 ∨ 16384 < n) (w : World) :
    Calls Try.prog 21 #[.int .i64 n] w fun e w' => e = .returned (.tuple #[.pointer none, .int .i64 11]) ∧ w' = w := by
  by_cases c : n < 0
  · go_enter Try.func21, Try.ntmps21
    go_wp2
    go_ret2
    exact ⟨rfl, rfl⟩
  · have c2 : 16384 < n := by omega
    go_enter Try.func21, Try.ntmps21
    go_wp2
    go_ret2
    exact ⟨rfl, rfl⟩
theorem Try.infoSlot : (Try.prog.info? 86).map (fun i => (i.zero, i.size, i.bytes)) = some (some (.agg #[.pointer none, .int .i64 0]), 2, 16) := by kernel_rfl
theorem newPool_ok (n : Nat) (hn : n ≤ 16384) (w : World) :
    Calls Try.prog 21 #[.int .i64 n] w fun e w' => ∃ g b, e = .returned (.tuple #[.pointer (some ⟨g, 0, none⟩), .int .i64 0]) ∧ PoolAt w' g b n (Po.zeros n) (Po.zeros n) ∧ w.heap.size ≤ g ∧ w.heap.size ≤ b ∧ Below w.heap.size w w' := by
  have hmk := run_make_rows (P := Try.prog) 67 86 (.agg #[.pointer none, .int .i64 0]) #[.pointer none, .int .i64 0] 2 16 rfl Try.underlying67 Try.infoSlot .i64 .i64 n (by omega) (by omega)
  go_enter Try.func21, Try.ntmps21
  go_wp2_with fail
  clear hmk
  obtain ⟨u, hu⟩ : ∃ u, (w.alloc (.cells (madeCells #[.pointer none, .int .i64 0] (n * 2)) 86)).alloc (.cells #[.slice (some ⟨w.heap.size, 0, none⟩) n n, .int .i64 0] 74) = u := ⟨_, rfl⟩
  have h1 : Hid (u.rowIs (w.heap.size + 1) 74 2 (poc w.heap.size n 0)) := by
    have := World.rowIs_alloc (w.alloc (.cells (madeCells #[.pointer none, .int .i64 0] (n * 2)) 86)) #[.slice (some ⟨w.heap.size, 0, none⟩) n n, .int .i64 0] 74 (poc w.heap.size n 0) (by
      intro i hi
      match i, hi with
      | 0, _ => rfl
      | 1, _ => rfl)
    rw [hu] at this
    show u.rowIs _ _ _ _
    simpa using this
  have h2 : Hid (u.rowIs w.heap.size 86 (n * 2) (fun j => #[Value.pointer none, .int .i64 0][j % 2]!)) := by
    rw [← hu]
    exact (row_made w #[.pointer none, .int .i64 0] (n * 2) 86).of_block (Below.heap_alloc _ _ _ (by simp))
  have h3 : Hid (Below w.heap.size w u) := by rw [← hu]; exact two_boxes _ _ _
  rw [hu]
  clear hu
  refine (storeA_any (w.heap.size + 1) 1 0 n u (by rw [h1.out.cell (show 1 < 2 by decide)]; rfl) (h1.out.frozen 1)).mono ?_
  rintro e w' ⟨rfl, rfl⟩
  go_wp2
  go_ret2
  refine ⟨w.heap.size + 1, w.heap.size, rfl, PoolAt.made rfl ((h1.out.set 1 _).congr fun j hj => poc_set _ _ _ _ _ hj) (h2.out.of_block (Below.heap_setCell _ _ _ _ (by show w.heap.size ≠ w.heap.size + 1; omega))) (by omega) hn, by omega, Nat.le_refl _, h3.out.setCell (p := ⟨w.heap.size + 1, 1, none⟩) (by show w.heap.size ≤ w.heap.size + 1; omega) _⟩
theorem free_any (g b n c : Nat) (R M : List Int) (w : World) (h : PoolAt w g b n R M) (hc : Po.cnt R = c) :
    Calls Try.prog 13 #[.pointer (some ⟨g, 0, none⟩)] w fun e w' => e = .returned (.int .i64 c) ∧ w' = w := by
  obtain ⟨_, c1, _⟩ := h.cells
  rw [hc] at c1
  clear h hc
  go_enter Try.func13, Try.ntmps13
  go_wp2_with (go_at_call 32; refine (loadA_any _ _ _ _ c1).mono ?_; rintro e w' ⟨rfl, hww⟩; cases hww.symm; clear hww)
  go_ret
  exact ⟨rfl, rfl⟩
theorem held_some (g b n k : Nat) (R M : List Int) (w : World) (h : PoolAt w g b n R M) (hk : k < n) (hr : 0 < Ls.nth R k) :
    Calls Try.prog 33 #[.pointer (some ⟨g, 0, none⟩), .int .i64 k] w fun e w' => e = .returned (.pointer (some ⟨b, k * 2, none⟩)) ∧ w' = w := by
  obtain ⟨c0, _, _⟩ := h.cells
  obtain ⟨_, s1, _, _⟩ := h.slot hk
  obtain ⟨_, _, _, hn, _⟩ := h.nums
  obtain ⟨x, ex⟩ : ∃ x, Ls.nth R k = x := ⟨_, rfl⟩
  rw [ex] at s1 hr
  have z0 : (x == 0) = false := beq_eq_false_iff_ne.2 (by omega)
  clear h ex
  go_enter Try.func33, Try.ntmps33
  go_wp2_with (go_at_call 32; refine (loadA_any _ _ _ _ s1).mono ?_; rintro e w' ⟨rfl, hww⟩; cases hww.symm; clear hww)
  go_ret
  exact ⟨rfl, rfl⟩
theorem held_none (g b n : Nat) (id : Int) (R M : List Int) (w : World) (h : PoolAt w g b n R M) (hr : ¬ (0 ≤ id ∧ id < n ∧ 0 < Ls.nth R id.toNat)) :
    Calls Try.prog 33 #[.pointer (some ⟨g, 0, none⟩), .int .i64 id] w fun e w' => e = .returned (.pointer none) ∧ w' = w := by
  obtain ⟨c0, _, _⟩ := h.cells
  obtain ⟨_, _, _, hn, hp⟩ := h.nums
  by_cases a1 : id < 0
  · clear h hp hr
    go_enter Try.func33, Try.ntmps33
    go_wp2
    go_ret
    exact ⟨rfl, rfl⟩
  obtain ⟨k, rfl⟩ : ∃ k : Nat, id = k := ⟨id.toNat, by omega⟩
  by_cases a2 : k < n
  · obtain ⟨_, s1, _, _⟩ := h.slot a2
    have e0 : Ls.nth R k = 0 := by have := hp k; have : ¬ (0 < Ls.nth R ((k : Int)).toNat) := fun q => hr ⟨by omega, by omega, q⟩; simp at this; omega
    rw [e0] at s1
    clear h hp hr e0
    go_enter Try.func33, Try.ntmps33
    go_wp2_with (go_at_call 32; refine (loadA_any _ _ _ _ s1).mono ?_; rintro e w' ⟨rfl, hww⟩; cases hww.symm; clear hww)
    go_ret
    exact ⟨rfl, rfl⟩
  · clear h hp hr
    go_enter Try.func33, Try.ntmps33
    go_wp2
    go_ret
    exact ⟨rfl, rfl⟩

theorem put_ok (g b n k q : Nat) (m : Int) (R M : List Int) (w : World) (h : PoolAt w g b n R M) (hk : k < n) (h0 : Ls.nth R k = 0) (hl : ∀ i, i < k → ¬ Ls.nth R i = 0) (hq : PgM w q m) (q1 : ¬ q = g) (q2 : ¬ q = b) :
    Calls Try.prog 37 #[.pointer (some ⟨g, 0, none⟩), .pointer (some ⟨q, 0, none⟩)] w fun e w' => e = .returned (.tuple #[.int .i64 k, .int .i64 0]) ∧ PoolAt w' g b n (R.set k 1) (M.set k m) ∧ But2 g b w w' := by
  obtain ⟨c0, c1, f1⟩ := h.cells
  obtain ⟨nbg, lR, _, hn, hp⟩ := h.nums
  have HP : Hid (PoolAt w g b n R M) := h
  have HL : Hid (∀ i, i < k → ¬ Ls.nth R i = 0) := hl
  have H0 : Hid (Ls.nth R k = 0) := h0
  have HQ : Hid (PgM w q m) := hq
  have hcl : Po.cnt R ≤ n := by rw [← lR]; exact Po.cnt_le R
  obtain ⟨ct, ect⟩ : ∃ c, Po.cnt R = c := ⟨_, rfl⟩
  have ECT : Hid (Po.cnt R = ct) := ect
  rw [ect] at c1 hcl
  clear h hl h0 hq hp lR ect
  go_enter Try.func37, Try.ntmps37
  go_wp2
  go_loop [13] (fun i => ∃ j : Nat, j ≤ k ∧ i = .int .i64 j) (fun i => k - (intOf i).toNat)
  case atStart => exact ⟨0, Nat.zero_le _, rfl⟩
  case round =>
    obtain ⟨j, hj, rfl⟩ := hrel
    by_cases e : j = k
    · subst e
      obtain ⟨⟨v0, s0⟩, s1, z0, z1⟩ := HP.out.slot hk
      rw [H0.out] at s1
      have t1 : (w.setCell ⟨b, j * 2, none⟩ (.pointer (some ⟨q, 0, none⟩))).cell? ⟨b, j * 2 + 1, none⟩ = some (.int .i64 0) := by rw [World.cell?_setCell_other _ _ _ _ (by simp)]; exact s1
      have y1 : (w.setCell ⟨b, j * 2, none⟩ (.pointer (some ⟨q, 0, none⟩))).frozen? ⟨b, j * 2 + 1, none⟩ = false := by simp [z1]
      have t2 : ((w.setCell ⟨b, j * 2, none⟩ (.pointer (some ⟨q, 0, none⟩))).setCell ⟨b, j * 2 + 1, none⟩ (.int .i64 1)).cell? ⟨g, 1, none⟩ = some (.int .i64 ct) := by
        rw [World.cell?_setCell_other _ _ _ _ (by simp), World.cell?_setCell_other _ _ _ _ (by simp)]; exact c1
      have y2 : ((w.setCell ⟨b, j * 2, none⟩ (.pointer (some ⟨q, 0, none⟩))).setCell ⟨b, j * 2 + 1, none⟩ (.int .i64 1)).frozen? ⟨g, 1, none⟩ = false := by simp [f1]
      have hc0 : 0 < ct := by rw [← ECT.out]; exact Po.cnt_pos (by rw [HP.out.nums.2.1]; exact hk) H0.out
      go_wp2_with (first
        | (go_at_call 32; refine (loadA_any _ _ _ _ s1).mono ?_; rintro e w' ⟨rfl, hww⟩; cases hww.symm; clear hww)
        | (go_at_call 40; refine (storeA_any _ _ _ _ _ t1 y1).mono ?_; rintro e w' ⟨rfl, rfl⟩)
        | (go_at_call 43; refine (addA_any _ _ _ _ ((ct : Int) - 1) (by omega) (by omega) (by omega) _ t2 y2).mono ?_; rintro e w' ⟨rfl, rfl⟩))
      go_ret2
      exact ⟨rfl, HP.out.put hk H0.out HQ.out q1 q2 (by rw [ECT.out]), (((But2.refl g b w).setB _ _).setB _ _).setG _ _⟩
    · have hjk : j < k := by omega
      obtain ⟨_, s1, _, _⟩ := HP.out.slot (show j < n by omega)
      have nz := HL.out j hjk
      obtain ⟨x, ex⟩ : ∃ x, Ls.nth R j = x := ⟨_, rfl⟩
      rw [ex] at s1 nz
      have z0 : (x == 0) = false := beq_eq_false_iff_ne.2 nz
      clear ex
      go_wp2_with (go_at_call 32; refine (loadA_any _ _ _ _ s1).mono ?_; rintro e w' ⟨rfl, hww⟩; cases hww.symm; clear hww)
      go_round
      case rel => exact ⟨j + 1, by omega, by go_num⟩
      case measure => simp [intOf]; omega
theorem put_full (g b n : Nat) (x : Value) (R M : List Int) (w : World) (h : PoolAt w g b n R M) (hl : ∀ i, i < R.length → ¬ Ls.nth R i = 0) :
    Calls Try.prog 37 #[.pointer (some ⟨g, 0, none⟩), x] w fun e w' => e = .returned (.tuple #[.int .i64 0, .int .i64 23]) ∧ w' = w := by
  obtain ⟨c0, c1, f1⟩ := h.cells
  obtain ⟨nbg, lR, _, hn, hp⟩ := h.nums
  rw [lR] at hl
  have HP : Hid (PoolAt w g b n R M) := h
  have HL : Hid (∀ i, i < n → ¬ Ls.nth R i = 0) := hl
  clear h hl hp lR c1 f1
  go_enter Try.func37, Try.ntmps37
  go_wp2
  go_loop [13] (fun i => ∃ j : Nat, j ≤ n ∧ i = .int .i64 j) (fun i => n - (intOf i).toNat)
  case atStart => exact ⟨0, Nat.zero_le _, rfl⟩
  case round =>
    obtain ⟨j, hj, rfl⟩ := hrel
    by_cases hlt : j < n
    · obtain ⟨_, s1, _, _⟩ := HP.out.slot hlt
      have nz := HL.out j hlt
      obtain ⟨x, ex⟩ : ∃ x, Ls.nth R j = x := ⟨_, rfl⟩
      rw [ex] at s1 nz
      have z0 : (x == 0) = false := beq_eq_false_iff_ne.2 nz
      clear ex
      go_wp2_with (go_at_call 32; refine (loadA_any _ _ _ _ s1).mono ?_; rintro e w' ⟨rfl, hww⟩; cases hww.symm; clear hww)
      go_round
      case rel => exact ⟨j + 1, by omega, by go_num⟩
      case measure => simp [intOf]; omega
    · go_wp2
      go_ret2
      exact ⟨rfl, rfl⟩

theorem get_none (g b n : Nat) (id : Int) (R M : List Int) (w : World) (h : PoolAt w g b n R M) (hr : ¬ (0 ≤ id ∧ id < n ∧ 0 < Ls.nth R id.toNat)) :
    Calls Try.prog 39 #[.pointer (some ⟨g, 0, none⟩), .int .i64 id] w fun e w' => e = .returned (.tuple #[.pointer none, .int .i64 14]) ∧ w' = w := by
  have HP : Hid (PoolAt w g b n R M) := h
  have HR : Hid (¬ (0 ≤ id ∧ id < n ∧ 0 < Ls.nth R id.toNat)) := hr
  clear h hr
  go_enter Try.func39, Try.ntmps39
  go_wp2_with (go_at_call 33; refine (held_none g b n id R M _ HP.out HR.out).mono ?_; rintro e w' ⟨rfl, hww⟩; cases hww.symm; clear hww)
  go_ret2
  exact ⟨rfl, rfl⟩
theorem get_some (g b n k : Nat) (R M : List Int) (w : World) (h : PoolAt w g b n R M) (hk : k < n) (hr : 0 < Ls.nth R k) :
    Calls Try.prog 39 #[.pointer (some ⟨g, 0, none⟩), .int .i64 k] w fun e w' => ∃ q, e = .returned (.tuple #[.pointer (some ⟨q, 0, none⟩), .int .i64 0]) ∧ PgM w q (Ls.nth M k) ∧ w' = w := by
  obtain ⟨q, s0, _, _, hq⟩ := h.page hk hr
  have HP : Hid (PoolAt w g b n R M) := h
  have HR : Hid (0 < Ls.nth R k) := hr
  have HQ : Hid (PgM w q (Ls.nth M k)) := hq
  clear h hr hq
  go_enter Try.func39, Try.ntmps39
  go_wp2_with (go_at_call 33; refine (held_some g b n k R M _ HP.out hk HR.out).mono ?_; rintro e w' ⟨rfl, hww⟩; cases hww.symm; clear hww)
  go_ret2
  exact ⟨q, rfl, HQ.out, rfl⟩
theorem refs_none (g b n : Nat) (id : Int) (R M : List Int) (w : World) (h : PoolAt w g b n R M) (hr : ¬ (0 ≤ id ∧ id < n ∧ 0 < Ls.nth R id.toNat)) :
    Calls Try.prog 18 #[.pointer (some ⟨g, 0, none⟩), .int .i64 id] w fun e w' => e = .returned (.int .i64 0) ∧ w' = w := by
  have HP : Hid (PoolAt w g b n R M) := h
  have HR : Hid (¬ (0 ≤ id ∧ id < n ∧ 0 < Ls.nth R id.toNat)) := hr
  clear h hr
  go_enter Try.func18, Try.ntmps18
  go_wp2_with (go_at_call 33; refine (held_none g b n id R M _ HP.out HR.out).mono ?_; rintro e w' ⟨rfl, hww⟩; cases hww.symm; clear hww)
  go_ret
  exact ⟨rfl, rfl⟩
theorem refs_some (g b n k : Nat) (x : Int) (R M : List Int) (w : World) (h : PoolAt w g b n R M) (hk : k < n) (ex : Ls.nth R k = x) (hr : 0 < x) :
    Calls Try.prog 18 #[.pointer (some ⟨g, 0, none⟩), .int .i64 k] w fun e w' => e = .returned (.int .i64 x) ∧ w' = w := by
  obtain ⟨_, s1, _, _⟩ := h.slot hk
  rw [ex] at s1
  have HP : Hid (PoolAt w g b n R M) := h
  have HR : Hid (0 < Ls.nth R k) := by show 0 < Ls.nth R k; rw [ex]; exact hr
  clear h ex
  go_enter Try.func18, Try.ntmps18
  go_wp2_with (first
    | (go_at_call 33; refine (held_some g b n k R M _ HP.out hk HR.out).mono ?_; rintro e w' ⟨rfl, hww⟩; cases hww.symm; clear hww)
    | (go_at_call 32; refine (loadA_any _ _ _ _ s1).mono ?_; rintro e w' ⟨rfl, hww⟩; cases hww.symm; clear hww))
  go_ret
  exact ⟨rfl, rfl⟩
theorem hold_none (g b n : Nat) (id : Int) (R M : List Int) (w : World) (h : PoolAt w g b n R M) (hr : ¬ (0 ≤ id ∧ id < n ∧ 0 < Ls.nth R id.toNat)) :
    Calls Try.prog 35 #[.pointer (some ⟨g, 0, none⟩), .int .i64 id] w fun e w' => e = .returned (.int .i64 14) ∧ w' = w := by
  have HP : Hid (PoolAt w g b n R M) := h
  have HR : Hid (¬ (0 ≤ id ∧ id < n ∧ 0 < Ls.nth R id.toNat)) := hr
  clear h hr
  go_enter Try.func35, Try.ntmps35
  go_wp2_with (go_at_call 33; refine (held_none g b n id R M _ HP.out HR.out).mono ?_; rintro e w' ⟨rfl, hww⟩; cases hww.symm; clear hww)
  go_ret
  exact ⟨rfl, rfl⟩
theorem hold_some (g b n k : Nat) (x : Int) (R M : List Int) (w : World) (h : PoolAt w g b n R M) (hk : k < n) (ex : Ls.nth R k = x) (hr : 0 < x) (hx : x < 1000000) :
    Calls Try.prog 35 #[.pointer (some ⟨g, 0, none⟩), .int .i64 k] w fun e w' => e = .returned (.int .i64 0) ∧ PoolAt w' g b n (R.set k (x + 1)) M ∧ But2 g b w w' := by
  obtain ⟨_, s1, _, z1⟩ := h.slot hk
  rw [ex] at s1
  have HP : Hid (PoolAt w g b n R M) := h
  have HR : Hid (0 < Ls.nth R k) := by show 0 < Ls.nth R k; rw [ex]; exact hr
  clear h ex
  go_enter Try.func35, Try.ntmps35
  go_wp2_with (first
    | (go_at_call 33; refine (held_some g b n k R M _ HP.out hk HR.out).mono ?_; rintro e w' ⟨rfl, hww⟩; cases hww.symm; clear hww)
    | (go_at_call 43; refine (addA_any _ _ _ _ (x + 1) rfl (by omega) (by omega) _ s1 z1).mono ?_; rintro e w' ⟨rfl, rfl⟩))
  go_ret
  exact ⟨rfl, HP.out.count hk HR.out (by omega), (But2.refl g b w).setB _ _⟩
theorem drop_none (g b n : Nat) (id : Int) (R M : List Int) (w : World) (h : PoolAt w g b n R M) (hr : ¬ (0 ≤ id ∧ id < n ∧ 0 < Ls.nth R id.toNat)) :
    Calls Try.prog 30 #[.pointer (some ⟨g, 0, none⟩), .int .i64 id] w fun e w' => e = .returned (.int .i64 14) ∧ w' = w := by
  have HP : Hid (PoolAt w g b n R M) := h
  have HR : Hid (¬ (0 ≤ id ∧ id < n ∧ 0 < Ls.nth R id.toNat)) := hr
  clear h hr
  go_enter Try.func30, Try.ntmps30
  go_wp2_with (go_at_call 33; refine (held_none g b n id R M _ HP.out HR.out).mono ?_; rintro e w' ⟨rfl, hww⟩; cases hww.symm; clear hww)
  go_ret
  exact ⟨rfl, rfl⟩
theorem drop_more (g b n k : Nat) (x : Int) (R M : List Int) (w : World) (h : PoolAt w g b n R M) (hk : k < n) (ex : Ls.nth R k = x) (hr : 1 < x) (hx : x < 1000000) :
    Calls Try.prog 30 #[.pointer (some ⟨g, 0, none⟩), .int .i64 k] w fun e w' => e = .returned (.int .i64 0) ∧ PoolAt w' g b n (R.set k (x - 1)) M ∧ But2 g b w w' := by
  obtain ⟨_, s1, _, z1⟩ := h.slot hk
  rw [ex] at s1
  have HP : Hid (PoolAt w g b n R M) := h
  have HR : Hid (0 < Ls.nth R k) := by show 0 < Ls.nth R k; rw [ex]; omega
  have z0 : (x - 1 == 0) = false := beq_eq_false_iff_ne.2 (by omega)
  obtain ⟨y, ey⟩ : ∃ y, x - 1 = y := ⟨_, rfl⟩
  rw [ey] at z0 ⊢
  have ey1 : x + -1 = y := by omega
  have ey2 : 0 < y ∧ y ≤ 1000000 := by omega
  clear h ex ey
  go_enter Try.func30, Try.ntmps30
  go_wp2_with (first
    | (go_at_call 33; refine (held_some g b n k R M _ HP.out hk HR.out).mono ?_; rintro e w' ⟨rfl, hww⟩; cases hww.symm; clear hww)
    | (go_at_call 43; refine (addA_any b (k * 2 + 1) x (-1) y ey1 (by omega) (by omega) _ s1 z1).mono ?_; rintro e w' ⟨rfl, rfl⟩))
  go_ret
  exact ⟨rfl, HP.out.count hk HR.out (by omega), (But2.refl g b w).setB _ _⟩
set_option maxHeartbeats 800000 in
theorem drop_last (g b n k : Nat) (R M : List Int) (w : World) (h : PoolAt w g b n R M) (hk : k < n) (ex : Ls.nth R k = 1) :
    Calls Try.prog 30 #[.pointer (some ⟨g, 0, none⟩), .int .i64 k] w fun e w' => e = .returned (.int .i64 0) ∧ PoolAt w' g b n (R.set k 0) M ∧ But2 g b w w' := by
  obtain ⟨⟨v0, s0⟩, s1, z0, z1⟩ := h.slot hk
  obtain ⟨c0, c1, f1⟩ := h.cells
  obtain ⟨nbg, lR, _, hn, hp⟩ := h.nums
  have hcl : Po.cnt R ≤ n := by rw [← lR]; exact Po.cnt_le R
  obtain ⟨ct, ect⟩ : ∃ c, Po.cnt R = c := ⟨_, rfl⟩
  have ECT : Hid (Po.cnt R = ct) := ect
  rw [ect] at c1 hcl
  rw [ex] at s1
  have HP : Hid (PoolAt w g b n R M) := h
  have EX : Hid (Ls.nth R k = 1) := ex
  have HR : Hid (0 < Ls.nth R k) := by show 0 < Ls.nth R k; rw [ex]; decide
  have t0 : (w.setCell ⟨b, k * 2 + 1, none⟩ (.int .i64 0)).cell? ⟨b, k * 2, none⟩ = some v0 := by rw [World.cell?_setCell_other _ _ _ _ (by simp)]; exact s0
  have y0 : (w.setCell ⟨b, k * 2 + 1, none⟩ (.int .i64 0)).frozen? ⟨b, k * 2, none⟩ = false := by simp [z0]
  have t2 : ((w.setCell ⟨b, k * 2 + 1, none⟩ (.int .i64 0)).setCell ⟨b, k * 2, none⟩ (.pointer none)).cell? ⟨g, 1, none⟩ = some (.int .i64 ct) := by
    rw [World.cell?_setCell_other _ _ _ _ (by simp), World.cell?_setCell_other _ _ _ _ (by simp)]; exact c1
  have y2 : ((w.setCell ⟨b, k * 2 + 1, none⟩ (.int .i64 0)).setCell ⟨b, k * 2, none⟩ (.pointer none)).frozen? ⟨g, 1, none⟩ = false := by simp [f1]
  clear h ex lR hp ect
  go_enter Try.func30, Try.ntmps30
  go_wp2_with (go_at_call 33; refine (held_some g b n k R M _ HP.out hk HR.out).mono ?_; rintro e w' ⟨rfl, hww⟩; cases hww.symm; clear hww)
  refine (addA_any b (k * 2 + 1) 1 (-1) 0 (by decide) (by decide) (by decide) w s1 z1).mono ?_
  rintro e w' ⟨rfl, rfl⟩
  go_wp2_with fail
  refine (addA_any g 1 ct 1 ((ct : Int) + 1) rfl (by omega) (by omega) _ t2 y2).mono ?_
  rintro e w' ⟨rfl, rfl⟩
  go_wp2
  go_ret
  exact ⟨rfl, HP.out.gone hk EX.out (by rw [ECT.out]), (((But2.refl g b w).setB _ _).setB _ _).setG _ _⟩
end Go.Proofs.Ytpifemahakbegaa
/- Contracts of layer 10: the slots that aren't free, a page's head, a page with a mark. -/
namespace Go.Proofs.Ytpifemahakbegaa
set_option linter.unusedVariables false
open Go.RowKit

theorem own_off {w : World} {base : Nat} {t : TypeId} {v : Value} {n : Nat} {xs : List Value} {a : Option Addr} {c : Nat} (h : w.ownsRow base t 1 v n xs) (e : v = .slice a n c) : ∀ x, a = some x → base ≤ x.block ∧ x.block < w.heap.size := by
  intro x ex
  have hl := h.lt
  rcases h.2 with ⟨e1, _⟩ | ⟨g, cap, cur, e1, hbg, hg, _⟩
  · rw [e] at e1; cases e1; cases ex
  · rw [e] at e1
    cases e1
    cases ex
    exact hl g (by rw [e]; rfl)
theorem own_none {w : World} {base : Nat} {t : TypeId} {v : Value} {n : Nat} {xs : List Value} {a : Option Addr} {c : Nat} (h : w.ownsRow base t 1 v n xs) (e : v = .slice a n c) : a = none → c = 0 := by
  intro ea
  rcases h.2 with ⟨e1, _⟩ | ⟨g, cap, cur, e1, hbg, hg, _⟩
  · rw [e] at e1; cases e1; rfl
  · rw [e, ea] at e1; cases e1

set_option maxHeartbeats 800000 in
theorem used_any (g b n m : Nat) (R M : List Int) (w : World) (h : PoolAt w g b n R M) (hm : (Po.used R).length = m) :
    Calls Try.prog 14 #[.pointer (some ⟨g, 0, none⟩)] w fun e w' => ∃ a c, e = .returned (.slice a m c) ∧ Lst .i64 w' a (Po.used R) ∧ (∀ x, a = some x → w.heap.size ≤ x.block ∧ x.block < w'.heap.size) ∧ Below w.heap.size w w' := by
  obtain ⟨i0, hi0, hi1, hi2, hi3⟩ := info_parts Try.infoIntG
  obtain ⟨c0, _, _⟩ := h.cells
  obtain ⟨_, lR, _, hn, hp⟩ := h.nums
  have HP : Hid (PoolAt w g b n R M) := h
  have HN : Hid (∀ i, 0 ≤ Ls.nth R i) := hp
  have LR : Hid (R.length = n) := lR
  have HM : Hid ((Po.used R).length = m) := hm
  clear h hp lR hm
  go_enter Try.func14, Try.ntmps14
  go_wp2
  clear c0
  go_loopw [3, 10] (fun v i wr => ∃ (k j : Nat), k ≤ n ∧ i = .int .i64 k ∧ (Po.usedN R k).length = j ∧ wr.ownsRow w.heap.size 3 1 v j ((Po.usedN R k).map (Value.int .i64)) ∧ Below w.heap.size w wr) (fun _ i _ => n - (intOf i).toNat)
  case atStart => exact ⟨0, 0, Nat.zero_le _, rfl, rfl, World.ownsRow_nil _ _ _ _, Below.refl _ _⟩
  case round =>
    obtain ⟨k, j, hk, rfl, hj, hown, hbel⟩ := hrel
    have HO : Hid (wr.ownsRow w.heap.size 3 1 u3 j ((Po.usedN R k).map (Value.int .i64))) := hown
    have HB : Hid (Below w.heap.size w wr) := hbel
    have HJ : Hid ((Po.usedN R k).length = j) := hj
    have hjk : j ≤ k := by rw [← hj]; exact Po.usedN_le R k
    have hsz := hbel.size
    clear hown hbel hj
    by_cases hlt : k < n
    · by_cases hr : 0 < Ls.nth R k
      · go_wp2_with (first
          | (go_at_call 33; refine (held_some g b n k R M _ (HP.out.keep HB.out) hlt hr).mono ?_; rintro e w' ⟨rfl, hww⟩; cases hww.symm; clear hww)
          | (at_builtin; refine wpList_append_lies _ rfl _ _ _ rfl w.heap.size 3 i0 _ 1 8 Try.underlying31 hi0 hi1 hi2 hi3 rfl (by omega) _ j _ (by rfl) (HO.out.alloc _) ⟨wr.heap.size, 0, none⟩ 1 1 [.int .i64 k] (by rfl) (by rfl) (World.news_of_block (cs := #[.int .i64 k]) (t := 3) (fr := (0, 0)) (heap_alloc_new wr _)) (by simp [Value.oneCell']) (by omega) (by unfold maxLen; omega) (by omega) (by simp; omega) (wr.heap.size + 1) (by simp) ?_; intro gg cap w1 hown1 hgrow hat hlt1; have O1 : Hid (w1.ownsRow w.heap.size 3 1 (.slice (some ⟨gg, 0, none⟩) (j + 1) cap) (j + 1) ((Po.usedN R k).map (Value.int .i64) ++ [.int .i64 k])) := hown1; have B1 : Hid (Below w.heap.size w w1) := (HB.out.alloc (by omega) _).grown hgrow (by simp; omega) (fun j hj => (HO.out.lt j hj).1); clear hgrow hown1 hat))
        go_roundw
        case rel => exact ⟨k + 1, j + 1, by omega, by go_num, by rw [Po.usedN_yes hr, List.length_append, HJ.out]; rfl, by rw [Po.usedN_yes hr, List.map_append]; exact O1.out, B1.out⟩
        case measure => simp [intOf]; omega
      · go_wp2_with (go_at_call 33; refine (held_none g b n k R M _ (HP.out.keep HB.out) (fun q => hr (by have := q.2.2; simpa using this))).mono ?_; rintro e w' ⟨rfl, hww⟩; cases hww.symm; clear hww)
        go_roundw
        case rel => exact ⟨k + 1, j, by omega, by go_num, by rw [Po.usedN_no (show ¬ 0 < Ls.nth R k by omega)]; exact HJ.out, by rw [Po.usedN_no (show ¬ 0 < Ls.nth R k by omega)]; exact HO.out, HB.out⟩
        case measure => simp [intOf]; omega
    · have e : k = n := by omega
      subst e
      have eu : Po.usedN R k = Po.used R := by unfold Po.used; rw [LR.out]
      have ej : j = m := by rw [← HJ.out, eu]; exact HM.out
      subst ej
      rw [eu] at HO
      obtain ⟨a, c, e1, h2⟩ := lst_of_ownm HO.out HM.out.symm
      have HE : Hid (Lst .i64 wr a (Po.used R) ∧ ∀ x, a = some x → w.heap.size ≤ x.block ∧ x.block < wr.heap.size) := ⟨h2, own_off HO.out e1⟩
      clear HO h2
      subst e1
      go_wp2
      go_ret
      exact ⟨a, c, rfl, HE.out.1, HE.out.2, HB.out⟩

theorem headM_any (q : Nat) (m : Int) (w : World) (h : PgM w q m) :
    Calls Try.prog 23 #[.pointer (some ⟨q, 0, none⟩)] w fun e w' => ∃ x0 x1 x2 x3 x4 x5 : Int, e = .returned (.agg #[.int .i64 x0, .int .i64 x1, .int .i64 x2, .int .i64 x3, .int .i64 x4, .int .i64 x5, .int .i64 m]) ∧ Below w.heap.size w w' := by
  obtain ⟨f, x0, x1, x2, x3, x4, x5, hr, e0, e1, e2, e3, e4, e5, e6⟩ := h
  have y0 := hr.cell (show 0 < 9 by decide)
  have y1 := hr.cell (show 1 < 9 by decide)
  have y2 := hr.cell (show 2 < 9 by decide)
  have y3 := hr.cell (show 3 < 9 by decide)
  have y4 := hr.cell (show 4 < 9 by decide)
  have y5 := hr.cell (show 5 < 9 by decide)
  have y6 := hr.cell (show 6 < 9 by decide)
  rw [e0] at y0
  rw [e1] at y1
  rw [e2] at y2
  rw [e3] at y3
  rw [e4] at y4
  rw [e5] at y5
  rw [e6] at y6
  have hlt := hr.lt
  clear hr e0 e1 e2 e3 e4 e5 e6
  go_enter Try.func23, Try.ntmps23
  go_wp2
  refine bodyPost_ret (v := .agg #[.int .i64 x0, .int .i64 x1, .int .i64 x2, .int .i64 x3, .int .i64 x4, .int .i64 x5, .int .i64 m]) (by simp [results, Try.results23, go_sem]) rfl ⟨x0, x1, x2, x3, x4, x5, rfl, ?_⟩
  exact box_below _ _

theorem bits_mark (n : Int) : bits .and .i64 n 1023 = Po.mk n := by
  show IntKind.i64.wrap ((BitVec.ofInt 64 n &&& BitVec.ofInt 64 1023).toNat : Int) = _
  have h2 : (BitVec.ofInt 64 1023).toNat = 2 ^ 10 - 1 := by decide
  rw [BitVec.toNat_and, h2, Nat.and_two_pow_sub_one_eq_mod, BitVec.toNat_ofInt, IntKind.wrap_i64]
  unfold Po.mk
  omega

theorem tbl_at {w : World} {g : Nat} {t : TypeId} {fr : Nat × Nat} {A : Option Addr} {C : Nat} {x : List Int} (h : w.heap[g]? = some (.cells #[.slice A x.length C] t fr))
    (hx : Lst .i32 w A x) (h1 : x.length ≤ maxLen) : Tbl w (some ⟨g, 0, none⟩) [x] := by
  intro i hi
  have hi : i < 1 := hi
  obtain rfl : i = 0 := by omega
  exact ⟨g, 0, A, C, rfl, by rw [cell_of_row w g _ _ t fr h]; rfl, hx, h1⟩
theorem heap_lit {w : World} {g : Nat} {o : Obj} (h : g = w.heap.size) : (w.alloc o).heap[g]? = some o := by subst h; exact heap_alloc_new w o
theorem lst_lit1 {k : IntKind} {w : World} {t : TypeId} {g : Nat} (l : List Int) (h : g = w.heap.size) : Lst k (w.alloc (.cells (l.map (Value.int k)).toArray t)) (some ⟨g, 0, none⟩) l := by subst h; exact lst_new w l
theorem in32_one (x : Int) (h : -2147483648 ≤ x ∧ x ≤ 2147483647) (k : Nat) : Ls.In32 (Tb.row [[x]] k) := by
  by_cases e : k = 0
  · subst e
    refine Ls.in32_mk fun i hi => ?_
    have hi : i < 1 := hi
    obtain rfl : i = 0 := by omega
    exact h
  · rw [Tb.row_past (by show 1 ≤ k; omega)]
    intro i
    rw [Ls.nth_nil]
    omega
end Go.Proofs.Ytpifemahakbegaa
/- Contracts of the document's own answers of layer 10: marks and counts in lists. -/
namespace Go.Proofs.Ytpifemahakbegaa
set_option linter.unusedVariables false
open Go.RowKit

/-- The two cells of the document's pool. -/
def rfc (v1 v2 : Value) (i : Nat) : Value := if i = 0 then v1 else v2
theorem rfc_alloc (w : World) (v1 v2 : Value) (t : TypeId) : (w.alloc (.cells #[v1, v2] t)).rowIs w.heap.size t 2 (rfc v1 v2) :=
  World.rowIs_alloc w #[v1, v2] t (rfc v1 v2) (by
    intro i hi
    match i, hi with
    | 0, _ => rfl
    | 1, _ => rfl)
theorem rfc_set0 (v1 v2 v : Value) (j : Nat) (hj : j < 2) : (if j = 0 then v else rfc v1 v2 j) = rfc v v2 j := by
  match j, hj with
  | 0, _ => rfl
  | 1, _ => rfl
theorem rfc_set1 (v1 v2 v : Value) (j : Nat) (hj : j < 2) : (if j = 1 then v else rfc v1 v2 j) = rfc v1 v j := by
  match j, hj with
  | 0, _ => rfl
  | 1, _ => rfl
/-- Two rows of the call's own that don't share a block. -/
def Two (u v : Value) : Prop := ∀ x, u.ownBlock = some x → ¬ v.ownBlock = some x
theorem two_nil : Two (.slice none 0 0) (.slice none 0 0) := fun x e => nomatch e
theorem two_next {w : World} {base : Nat} {t : TypeId} {u v : Value} {n a b : Nat} {xs : List Value} {g H : Nat} (h : Two u v) (ho : w.ownsRow base t 1 v n xs) (hat : u.ownBlock = some g ∨ g = H) (hH : w.heap.size ≤ H) : Two (.slice (some ⟨g, 0, none⟩) a b) v := by
  intro x ex hx
  cases ex
  rcases hat with q | q
  · exact h g q hx
  · have := (ho.lt g hx).2; omega
theorem two_last {w : World} {base : Nat} {t : TypeId} {u v : Value} {n a b : Nat} {xs : List Value} {g H : Nat} (h : Two u v) (ho : w.ownsRow base t 1 u n xs) (hat : v.ownBlock = some g ∨ g = H) (hH : w.heap.size ≤ H) : Two u (.slice (some ⟨g, 0, none⟩) a b) := by
  intro x ex hx
  cases hx
  rcases hat with q | q
  · exact h g ex q
  · have := (ho.lt g ex).2; omega
theorem Po.zeros_snoc (k : Nat) : (Po.zeros (k + 1)).map (Value.int .i64) = (Po.zeros k).map (Value.int .i64) ++ [.int .i64 0] := by
  unfold Po.zeros
  rw [Ls.gen_succ, List.map_append]
  rfl

set_option maxRecDepth 100000 in
set_option maxHeartbeats 1600000 in
theorem refNew_any (n : Nat) (hn : n ≤ 16384) (w : World) :
    Calls Try.prog 25 #[.int .i64 n] w fun e w' => ∃ a1 c1 a2 c2, e = .returned (.agg #[.slice a1 n c1, .slice a2 n c2]) ∧ Lst .i64 w' a1 (Po.zeros n) ∧ Lst .i64 w' a2 (Po.zeros n) ∧ (a1 = none → c1 = 0) ∧ (a2 = none → c2 = 0) ∧ (∀ x, a1 = some x → w.heap.size ≤ x.block) ∧ (∀ x, a2 = some x → w.heap.size ≤ x.block) ∧ Below w.heap.size w w' := by
  obtain ⟨i0, hi0, hi1, hi2, hi3⟩ := info_parts Try.infoIntG
  go_enter Try.func25, Try.ntmps25
  go_wp2
  obtain ⟨u, hu⟩ : ∃ u, w.alloc (.cells #[.slice none 0 0, .slice none 0 0] 33) = u := ⟨_, rfl⟩
  have hus : u.heap.size = w.heap.size + 1 := by rw [← hu]; simp
  have UB : Hid (Below w.heap.size w u) := by rw [← hu]; exact box_below _ _
  have UR : Hid (u.rowIs w.heap.size 33 2 (rfc (.slice none 0 0) (.slice none 0 0))) := by rw [← hu]; exact rfc_alloc _ _ _ _
  rw [hu]
  clear hu
  go_loopw [4] (fun i wr => ∃ (k : Nat) (v1 v2 : Value), k ≤ n ∧ i = .int .i64 k ∧ Hid (wr.rowIs (w.heap.size + 1) 33 2 (rfc v1 v2)) ∧ Hid (wr.ownsRow (w.heap.size + 2) 3 1 v1 k ((Po.zeros k).map (Value.int .i64))) ∧ Hid (wr.ownsRow (w.heap.size + 2) 3 1 v2 k ((Po.zeros k).map (Value.int .i64))) ∧ Hid (Two v1 v2) ∧ Hid (Below (w.heap.size + 1) u wr)) (fun i _ => n - (intOf i).toNat)
  case atStart =>
    refine ⟨0, .slice none 0 0, .slice none 0 0, Nat.zero_le _, rfl, ?_, World.ownsRow_nil _ _ _ _, World.ownsRow_nil _ _ _ _, two_nil, (Below.refl _ _).alloc (by omega) _⟩
    rw [← hus]
    exact rfc_alloc _ _ _ _
  case round =>
    obtain ⟨k, v1, v2, hk, rfl, HR, HO1, HO2, HT, HB⟩ := hrel
    obtain ⟨va1, vc1, rfl⟩ := own_slice HO1.out
    obtain ⟨va2, vc2, rfl⟩ := own_slice HO2.out
    have hsz : w.heap.size + 2 ≤ wr.heap.size := HR.out.lt
    have d0 : wr.cell? ⟨w.heap.size + 1, 0, none⟩ = some (.slice va1 k vc1) := HR.out.cell (show 0 < 2 by decide)
    have d1 : wr.cell? ⟨w.heap.size + 1, 1, none⟩ = some (.slice va2 k vc2) := HR.out.cell (show 1 < 2 by decide)
    have f0 := HR.out.frozen 0
    by_cases hlt : k < n
    · go_wp2_with (first
        | (at_builtin; refine wpList_append_lies _ rfl _ _ _ rfl (w.heap.size + 2) 3 i0 _ 1 8 Try.underlying31 hi0 hi1 hi2 hi3 rfl (by omega) _ k _ (by rfl) (HO1.out.alloc _) ⟨wr.heap.size, 0, none⟩ 1 1 [.int .i64 0] (by rfl) (by rfl) (World.news_of_block (cs := #[.int .i64 0]) (t := 3) (fr := (0, 0)) (heap_lit (by simp))) (by simp [Value.oneCell']) (by omega) (by unfold maxLen; omega) (by omega) (by simp <;> omega) (wr.heap.size + 1) (by simp) ?_; intro gg cap w1 hown1 hgrow hat hlt1; have S1 : w.heap.size + 2 ≤ w1.heap.size := (by have := hgrow.size; simp at this; omega); have R1 : Hid (w1.rowIs (w.heap.size + 1) 33 2 (rfc (.slice va1 k vc1) (.slice va2 k vc2))) := (HR.out.alloc _).of_block (hgrow.block _ (by simp <;> omega) (fun e => by have := (HO1.out.lt _ e.symm).1; omega)); have B1 : Hid (Below (w.heap.size + 1) u w1) := (HB.out.alloc (by omega) _).grown hgrow (by simp <;> omega) (fun j hj => by have := (HO1.out.lt j hj).1; omega); have O1 : Hid (w1.ownsRow (w.heap.size + 2) 3 1 (.slice (some ⟨gg, 0, none⟩) (k + 1) cap) (k + 1) ((Po.zeros k).map (Value.int .i64) ++ [.int .i64 0])) := hown1; have P2 : Hid (w1.ownsRow (w.heap.size + 2) 3 1 (.slice va2 k vc2) k ((Po.zeros k).map (Value.int .i64))) := own_at (HO2.out.alloc _) (fun g hg => hgrow.block g (by have := (HO2.out.lt g hg).2; simp <;> omega) (fun e => HT.out g e.symm hg)); have T1 : Hid (Two (.slice (some ⟨gg, 0, none⟩) (k + 1) cap) (.slice va2 k vc2)) := two_next HT.out HO2.out hat (by omega); have c0 : w1.cell? ⟨w.heap.size + 1, 0, none⟩ = some (.slice va1 k vc1) := R1.out.cell (show 0 < 2 by decide); have c1 : w1.cell? ⟨w.heap.size + 1, 1, none⟩ = some (.slice va2 k vc2) := R1.out.cell (show 1 < 2 by decide); have f0 := R1.out.frozen 0; have f1 := R1.out.frozen 1; clear hown1 hgrow hat)
        | (at_builtin; refine wpList_append_lies _ rfl _ _ _ rfl (w.heap.size + 2) 3 i0 _ 1 8 Try.underlying31 hi0 hi1 hi2 hi3 rfl (by omega) _ k _ (by rfl) ((own_set P2.out (p := ⟨w.heap.size + 1, 0, none⟩) (by simp) _).alloc _) ⟨w1.heap.size, 0, none⟩ 1 1 [.int .i64 0] (by rfl) (by rfl) (World.news_of_block (cs := #[.int .i64 0]) (t := 3) (fr := (0, 0)) (heap_lit (by simp))) (by simp [Value.oneCell']) (by omega) (by unfold maxLen; omega) (by omega) (by simp <;> omega) (w1.heap.size + 1) (by simp) ?_; intro gg2 cap2 w2 hown2 hgrow2 hat2 hlt2; have R2 : Hid (w2.rowIs (w.heap.size + 1) 33 2 (rfc (.slice (some ⟨gg, 0, none⟩) (k + 1) cap) (.slice va2 k vc2))) := (((R1.out.set 0 _).congr (fun j hj => rfc_set0 _ _ _ j hj)).alloc _).of_block (hgrow2.block _ (by simp <;> omega) (fun e => by have := (P2.out.lt _ e.symm).1; omega)); have B2 : Hid (Below (w.heap.size + 1) u w2) := ((B1.out.setCell (p := ⟨w.heap.size + 1, 0, none⟩) (by simp) _).alloc (by simp <;> omega) _).grown hgrow2 (by simp <;> omega) (fun j hj => by have := (P2.out.lt j hj).1; omega); have O2 : Hid (w2.ownsRow (w.heap.size + 2) 3 1 (.slice (some ⟨gg2, 0, none⟩) (k + 1) cap2) (k + 1) ((Po.zeros k).map (Value.int .i64) ++ [.int .i64 0])) := hown2; have Q1 : Hid (w2.ownsRow (w.heap.size + 2) 3 1 (.slice (some ⟨gg, 0, none⟩) (k + 1) cap) (k + 1) ((Po.zeros k).map (Value.int .i64) ++ [.int .i64 0])) := own_at ((own_set O1.out (p := ⟨w.heap.size + 1, 0, none⟩) (by simp) _).alloc _) (fun g hg => hgrow2.block g (by have := (O1.out.lt g hg).2; simp <;> omega) (fun e => T1.out g hg e.symm)); have T2 : Hid (Two (.slice (some ⟨gg, 0, none⟩) (k + 1) cap) (.slice (some ⟨gg2, 0, none⟩) (k + 1) cap2)) := two_last T1.out O1.out hat2 (by omega); have c0 : w2.cell? ⟨w.heap.size + 1, 0, none⟩ = some (.slice (some ⟨gg, 0, none⟩) (k + 1) cap) := R2.out.cell (show 0 < 2 by decide); have c1 : w2.cell? ⟨w.heap.size + 1, 1, none⟩ = some (.slice va2 k vc2) := R2.out.cell (show 1 < 2 by decide); have f0 := R2.out.frozen 0; have f1 := R2.out.frozen 1; clear hown2 hgrow2 hat2))
      go_roundw
      case rel =>
        refine ⟨k + 1, .slice (some ⟨gg, 0, none⟩) (k + 1) cap, .slice (some ⟨gg2, 0, none⟩) (k + 1) cap2, by omega, by go_num, (R2.out.set 1 _).congr (fun j hj => rfc_set1 _ _ _ j hj), ?_, ?_, T2.out, B2.out.setCell (by simp) _⟩
        · exact own_set (by rw [Po.zeros_snoc]; exact Q1.out) (by simp) _
        · exact own_set (by rw [Po.zeros_snoc]; exact O2.out) (by simp) _
      case measure => simp [intOf]; omega
    · have e : k = n := by omega
      subst e
      have HB0 : Hid (Below w.heap.size w wr) := UB.out.trans (HB.out.mono (by omega))
      have r0 : wr.rowIs w.heap.size 33 2 (rfc (.slice none 0 0) (.slice none 0 0)) := UR.out.of_block (HB.out.block _ (by omega))
      have y0 := r0.cell (show 0 < 2 by decide)
      have y1 := r0.cell (show 1 < 2 by decide)
      have z0 := r0.frozen 0
      have z1 := r0.frozen 1
      clear r0
      go_wp2
      have own1 := own_set (own_set HO1.out (p := ⟨w.heap.size, 0, none⟩) (by simp) (.slice va1 k vc1)) (p := ⟨w.heap.size, 1, none⟩) (by simp) (.slice va2 k vc2)
      have own2 := own_set (own_set HO2.out (p := ⟨w.heap.size, 0, none⟩) (by simp) (.slice va1 k vc1)) (p := ⟨w.heap.size, 1, none⟩) (by simp) (.slice va2 k vc2)
      refine bodyPost_ret (v := .agg #[.slice va1 k vc1, .slice va2 k vc2]) (by simp [results, Try.results25, go_sem, y0, y1]) rfl ⟨va1, vc1, va2, vc2, rfl, ?_, ?_, own_none own1 rfl, own_none own2 rfl, ?_, ?_, ?_⟩
      · obtain ⟨a', c', h1, h2⟩ := lst_of_ownm own1 (Po.zeros_length k).symm
        cases h1
        exact h2
      · obtain ⟨a', c', h1, h2⟩ := lst_of_ownm own2 (Po.zeros_length k).symm
        cases h1
        exact h2
      · intro x ex; have := (own_off own1 rfl x ex).1; omega
      · intro x ex; have := (own_off own2 rfl x ex).1; omega
      · exact (HB0.out.setCell (by simp) _).setCell (by simp) _
end Go.Proofs.Ytpifemahakbegaa
/- Contracts of the document's own answers of layer 10, and of the law's own helpers. -/
namespace Go.Proofs.Ytpifemahakbegaa
set_option linter.unusedVariables false
set_option linter.unusedSimpArgs false
open Go.RowKit

theorem refFree_any (a1 a2 : Option Addr) (n c1 n2 c2 c : Nat) (R : List Int) (w : World) (h : Lst .i64 w a1 R) (hn : R.length = n) (hc : Po.cnt R = c) (hl : n ≤ 16384) :
    Calls Try.prog 29 #[.agg #[.slice a1 n c1, .slice a2 n2 c2]] w fun e w' => e = .returned (.int .i64 c) ∧ Below w.heap.size w w' := by
  have HL : Hid (Lst .i64 w a1 R) := h
  have HN : Hid (R.length = n) := hn
  have HC : Hid (Po.cnt R = c) := hc
  clear h hn hc
  go_enter Try.func29, Try.ntmps29
  go_wp2
  go_loop [3, 4] (fun x i => ∃ k : Nat, k ≤ n ∧ i = .int .i64 k ∧ x = .int .i64 (Po.cntN R k)) (fun _ i => n - (intOf i).toNat)
  case atStart => exact ⟨0, Nat.zero_le _, rfl, rfl⟩
  case round =>
    obtain ⟨k, hk, rfl, rfl⟩ := hrel
    have hck := Po.cntN_le R k
    by_cases hlt : k < n
    · obtain ⟨b1, o1, rfl, hg⟩ := HL.out.get (show k < R.length by rw [HN.out]; exact hlt)
      have s0 := hg k (by rw [HN.out]; exact hlt)
      have l0 := World.block_lt_of_cell? w _ s0
      clear hg
      by_cases e0 : Ls.nth R k = 0
      · rw [e0] at s0
        have en := Po.cntN_yes e0
        obtain ⟨q, eq⟩ : ∃ q, Po.cntN R k = q := ⟨_, rfl⟩
        rw [eq] at en hck ⊢
        have EN : Hid (Po.cntN R (k + 1) = q + 1) := en
        clear eq en e0
        go_wp2
        go_round
        case rel => exact ⟨k + 1, by omega, by go_num, by rw [EN.out]; go_num⟩
        case measure => simp [intOf]; omega
      · have EN : Hid (Po.cntN R (k + 1) = Po.cntN R k) := Po.cntN_no e0
        obtain ⟨x, ex⟩ : ∃ x, Ls.nth R k = x := ⟨_, rfl⟩
        rw [ex] at s0 e0
        have z0 : (x == 0) = false := beq_eq_false_iff_ne.2 e0
        clear ex
        go_wp2
        go_round
        case rel => exact ⟨k + 1, by omega, by go_num, by rw [EN.out]⟩
        case measure => simp [intOf]; omega
    · have e : k = n := by omega
      subst e
      have ec : Po.cntN R k = c := by rw [← HC.out]; unfold Po.cnt; rw [HN.out]
      rw [ec]
      go_wp2
      go_ret
      exact ⟨rfl, box_below _ _⟩
theorem refIs_yes (a1 a2 : Option Addr) (n c1 n2 c2 k : Nat) (R : List Int) (w : World) (h : Lst .i64 w a1 R) (hn : R.length = n) (hk : k < n) (hr : 0 < Ls.nth R k) :
    Calls Try.prog 52 #[.agg #[.slice a1 n c1, .slice a2 n2 c2], .int .i64 k] w fun e w' => e = .returned (.bool true) ∧ Below w.heap.size w w' := by
  obtain ⟨b1, o1, rfl, hg⟩ := h.get (show k < R.length by rw [hn]; exact hk)
  have s0 := hg k (by rw [hn]; exact hk)
  have l0 := World.block_lt_of_cell? w _ s0
  obtain ⟨x, ex⟩ : ∃ x, Ls.nth R k = x := ⟨_, rfl⟩
  rw [ex] at s0 hr
  have z0 : decide (0 < x) = true := decide_eq_true hr
  clear hg h hn ex
  go_enter Try.func52, Try.ntmps52
  go_wp2
  go_ret
  exact ⟨ret_bool (by simp [hk, hr]), box_below _ _⟩
theorem refIs_no (a1 a2 : Option Addr) (n c1 n2 c2 : Nat) (id : Int) (R : List Int) (w : World) (h : Lst .i64 w a1 R) (hn : R.length = n) (hr : ¬ (0 ≤ id ∧ id < n ∧ 0 < Ls.nth R id.toNat)) :
    Calls Try.prog 52 #[.agg #[.slice a1 n c1, .slice a2 n2 c2], .int .i64 id] w fun e w' => e = .returned (.bool false) ∧ Below w.heap.size w w' := by
  by_cases a0 : id < 0
  · clear h hn hr
    have z1 : decide (0 ≤ id) = false := decide_eq_false (by omega)
    go_enter Try.func52, Try.ntmps52
    go_wp2
    go_ret
    exact ⟨ret_bool (by simp [z1]), box_below _ _⟩
  obtain ⟨k, rfl⟩ : ∃ k : Nat, id = k := ⟨id.toNat, by omega⟩
  by_cases hk : k < n
  · obtain ⟨b1, o1, rfl, hg⟩ := h.get (show k < R.length by rw [hn]; exact hk)
    have s0 := hg k (by rw [hn]; exact hk)
    have l0 := World.block_lt_of_cell? w _ s0
    obtain ⟨x, ex⟩ : ∃ x, Ls.nth R k = x := ⟨_, rfl⟩
    have hx : ¬ 0 < x := by rw [← ex]; intro q; exact hr ⟨by omega, by omega, by simpa using q⟩
    rw [ex] at s0
    have z0 : decide (0 < x) = false := decide_eq_false hx
    clear hg h hn ex hr
    go_enter Try.func52, Try.ntmps52
    go_wp2
    go_ret
    exact ⟨ret_bool (by simp [z0]), box_below _ _⟩
  · clear h hn hr
    have z1 : decide ((k : Int) < (n : Int)) = false := decide_eq_false (by omega)
    go_enter Try.func52, Try.ntmps52
    go_wp2
    go_ret
    exact ⟨ret_bool (by simp [z1]), box_below _ _⟩

/-- One place of an own row of numbers: what it holds, and that it may be written. -/
theorem own_step {w : World} {base : Nat} {t : TypeId} {v : Value} {n k : Nat} {zs : List Int} (h : w.ownsRow base t 1 v n (zs.map (Value.int .i64))) (hk : k < n) :
    ∃ g c y, v = .slice (some ⟨g, 0, none⟩) n c ∧ w.cell? ⟨g, k, none⟩ = some (.int .i64 y) ∧ w.frozen? ⟨g, k, none⟩ = false ∧ base ≤ g ∧
      ∀ y', (w.setCell ⟨g, k, none⟩ (.int .i64 y')).ownsRow base t 1 (.slice (some ⟨g, 0, none⟩) n c) n ((zs.set k y').map (Value.int .i64)) := by
  have hz : zs.length = n := by have := h.1; simpa using this
  rcases h.2 with ⟨_, hn⟩ | ⟨g, cap, cur, e, hb, _⟩
  · omega
  · subst e
    refine ⟨g, cap, Ls.nth zs k, rfl, ?_, h.frozenAt k, hb, fun y' => ?_⟩
    · rw [h.cellAt k (by omega)]
      simp [Ls.nth, show k < zs.length by omega]
    · rw [List.map_set]
      exact (h.stored k (.int .i64 y')).1
set_option maxHeartbeats 800000 in
theorem with_any (a : Option Addr) (n c i : Nat) (x : Int) (l : List Int) (w : World) (h : Lst .i64 w a l) (hn : l.length = n) (hc : a = none → c = 0) (hi : i < n) (hl : n ≤ 16384) :
    Calls Try.prog 41 #[.slice a n c, .int .i64 i, .int .i64 x] w fun e w' => ∃ a' c', e = .returned (.slice a' n c') ∧ Lst .i64 w' a' (l.set i x) ∧ (a' = none → c' = 0) ∧ (∀ y, a' = some y → w.heap.size ≤ y.block) ∧ Below w.heap.size w w' := by
  subst hn
  have HL : Hid (Lst .i64 w a l) := h
  have HC : Hid (a = none → c = 0) := hc
  clear h hc
  go_enter Try.func41, Try.ntmps41
  go_wp2_with (at_builtin; refine wpList_append_lst rfl _ _ 31 rfl w.heap.size 3 .i64 8 Try.underlying31 Try.infoIntG _ 0 [] (by rfl) (World.ownsRow_nil _ _ _ _) a l c (by rfl) HL.out HC.out (by unfold maxLen; omega) (by omega) (by omega) ?_; intro v1 u1 ho1 hg1; simp only [Nat.zero_add, List.nil_append] at ho1; have O1 : Hid (u1.ownsRow w.heap.size 3 1 v1 l.length (l.map (Value.int .i64))) := ho1; have B1 : Hid (Below w.heap.size w u1) := (Below.refl _ _).grown hg1 (Nat.le_refl _) (by intro k hk; cases hk); clear ho1 hg1; obtain ⟨gw, cw, yw, rfl, hcw, hfw, hgw, hst⟩ := own_step O1.out hi; have ST : Hid (u1.ownsRow w.heap.size 3 1 (.slice (some ⟨gw, 0, none⟩) l.length cw) l.length (l.map (Value.int .i64)) ∧ ∀ y', (u1.setCell ⟨gw, i, none⟩ (.int .i64 y')).ownsRow w.heap.size 3 1 (.slice (some ⟨gw, 0, none⟩) l.length cw) l.length ((l.set i y').map (Value.int .i64))) := ⟨O1.out, hst⟩; clear hst O1)
  go_ret
  obtain ⟨a', c', e1, h2⟩ := lst_of_ownm (ST.out.2 x) (by simp)
  cases e1
  exact ⟨_, _, rfl, h2, (fun e => nomatch e), (fun y e => by cases e; exact hgw), B1.out.setCell (p := ⟨gw, i, none⟩) hgw _⟩
end Go.Proofs.Ytpifemahakbegaa
/- Contracts of the document's own answers of layer 10: a page put, a count changed; and of the law's test of lists. -/
namespace Go.Proofs.Ytpifemahakbegaa
set_option linter.unusedVariables false
set_option linter.unusedSimpArgs false
open Go.RowKit

theorem refPut_full (a1 a2 : Option Addr) (n c1 n2 c2 : Nat) (m : Int) (R : List Int) (w : World) (h : Lst .i64 w a1 R) (hn : R.length = n) (hl : n ≤ 16384) (hf : ∀ i, i < n → ¬ Ls.nth R i = 0) :
    Calls Try.prog 26 #[.agg #[.slice a1 n c1, .slice a2 n2 c2], .int .i64 m] w fun e w' => e = .returned (.tuple #[.agg #[.slice a1 n c1, .slice a2 n2 c2], .int .i64 0, .int .i64 23]) ∧ Below w.heap.size w w' := by
  have HL : Hid (Lst .i64 w a1 R) := h
  have HN : Hid (R.length = n) := hn
  have HF : Hid (∀ i, i < n → ¬ Ls.nth R i = 0) := hf
  clear h hn hf
  go_enter Try.func26, Try.ntmps26
  go_wp2
  go_loop [7] (fun i => ∃ k : Nat, k ≤ n ∧ i = .int .i64 k) (fun i => n - (intOf i).toNat)
  case atStart => exact ⟨0, Nat.zero_le _, rfl⟩
  case round =>
    obtain ⟨k, hk, rfl⟩ := hrel
    by_cases hlt : k < n
    · obtain ⟨b1, o1, rfl, hg⟩ := HL.out.get (show k < R.length by rw [HN.out]; exact hlt)
      have s0 := hg k (by rw [HN.out]; exact hlt)
      have l0 := World.block_lt_of_cell? w _ s0
      have nz := HF.out k hlt
      obtain ⟨x, ex⟩ : ∃ x, Ls.nth R k = x := ⟨_, rfl⟩
      rw [ex] at s0 nz
      have z0 : (x == 0) = false := beq_eq_false_iff_ne.2 nz
      clear hg ex
      go_wp2
      go_round
      case rel => exact ⟨k + 1, by omega, by go_num⟩
      case measure => simp [intOf]; omega
    · go_wp2
      refine bodyPost_ret (v := .tuple #[.agg #[.slice a1 n c1, .slice a2 n2 c2], .int .i64 0, .int .i64 23]) (by simp [results, Try.results26, go_sem]) rfl ⟨rfl, two_boxes _ _ _⟩

set_option maxRecDepth 100000 in
set_option maxHeartbeats 3200000 in
theorem refPut_ok (a1 a2 : Option Addr) (n c1 c2 k : Nat) (m : Int) (R M : List Int) (w : World) (h1 : Lst .i64 w a1 R) (h2 : Lst .i64 w a2 M) (hn1 : R.length = n) (hn2 : M.length = n) (hc1 : a1 = none → c1 = 0) (hc2 : a2 = none → c2 = 0) (hl : n ≤ 16384) (hk : k < n) (h0 : Ls.nth R k = 0) (hf : ∀ i, i < k → ¬ Ls.nth R i = 0) :
    Calls Try.prog 26 #[.agg #[.slice a1 n c1, .slice a2 n c2], .int .i64 m] w fun e w' => ∃ b1 d1 b2 d2, e = .returned (.tuple #[.agg #[.slice b1 n d1, .slice b2 n d2], .int .i64 k, .int .i64 0]) ∧ Lst .i64 w' b1 (R.set k 1) ∧ Lst .i64 w' b2 (M.set k m) ∧ (b1 = none → d1 = 0) ∧ (b2 = none → d2 = 0) ∧ (∀ y, b1 = some y → w.heap.size ≤ y.block) ∧ (∀ y, b2 = some y → w.heap.size ≤ y.block) ∧ Below w.heap.size w w' := by
  have H1 : Hid (Lst .i64 w a1 R) := h1
  have H2 : Hid (Lst .i64 w a2 M) := h2
  have N1 : Hid (R.length = n) := hn1
  have N2 : Hid (M.length = n) := hn2
  have C1 : Hid (a1 = none → c1 = 0) := hc1
  have C2 : Hid (a2 = none → c2 = 0) := hc2
  have H0 : Hid (Ls.nth R k = 0) := h0
  have HF : Hid (∀ i, i < k → ¬ Ls.nth R i = 0) := hf
  clear h1 h2 hn1 hn2 hc1 hc2 h0 hf
  go_enter Try.func26, Try.ntmps26
  go_wp2
  go_loop [7] (fun i => ∃ j : Nat, j ≤ k ∧ i = .int .i64 j) (fun i => k - (intOf i).toNat)
  case atStart => exact ⟨0, Nat.zero_le _, rfl⟩
  case round =>
    obtain ⟨j, hj, rfl⟩ := hrel
    obtain ⟨b1, o1, e1, hg⟩ := H1.out.get (show j < R.length by rw [N1.out]; omega)
    have s0 := hg j (by rw [N1.out]; omega)
    have l0 := World.block_lt_of_cell? w _ s0
    clear hg
    by_cases e : j = k
    · subst e
      rw [H0.out] at s0
      subst e1
      obtain ⟨u, hu⟩ : ∃ u, (w.alloc (.cells #[.slice (some ⟨b1, o1, none⟩) n c1, .slice a2 n c2] 33)).alloc (.cells #[.slice none 0 0, .slice none 0 0] 33) = u := ⟨_, rfl⟩
      have UB : Hid (Below w.heap.size w u) := by rw [← hu]; exact two_boxes _ _ _
      have US : u.heap.size = w.heap.size + 2 := by rw [← hu]; simp
      have R0 : Hid (u.rowIs w.heap.size 33 2 (rfc (.slice (some ⟨b1, o1, none⟩) n c1) (.slice a2 n c2))) := by rw [← hu]; exact (rfc_alloc _ _ _ _).of_block (Below.heap_alloc _ _ _ (by simp))
      have R1 : Hid (u.rowIs (w.heap.size + 1) 33 2 (rfc (.slice none 0 0) (.slice none 0 0))) := by rw [← hu]; have := rfc_alloc (w.alloc (.cells #[.slice (some ⟨b1, o1, none⟩) n c1, .slice a2 n c2] 33)) (.slice none 0 0) (.slice none 0 0) 33; show World.rowIs _ _ _ _ _; simpa using this
      rw [hu]
      clear hu
      have s1 : u.cell? ⟨b1, o1 + j, none⟩ = some (.int .i64 0) := by rw [UB.out.cell (p := ⟨b1, o1 + j, none⟩) l0]; exact s0
      have d0 : u.cell? ⟨w.heap.size, 0, none⟩ = some (.slice (some ⟨b1, o1, none⟩) n c1) := R0.out.cell (show 0 < 2 by decide)
      have d1 : u.cell? ⟨w.heap.size, 1, none⟩ = some (.slice a2 n c2) := R0.out.cell (show 1 < 2 by decide)
      have y0 : u.cell? ⟨w.heap.size + 1, 0, none⟩ = some (.slice none 0 0) := R1.out.cell (show 0 < 2 by decide)
      have y1 : u.cell? ⟨w.heap.size + 1, 1, none⟩ = some (.slice none 0 0) := R1.out.cell (show 1 < 2 by decide)
      have z0 : u.frozen? ⟨w.heap.size + 1, 0, none⟩ = false := R1.out.frozen 0
      have z1 : u.frozen? ⟨w.heap.size + 1, 1, none⟩ = false := R1.out.frozen 1
      clear s0
      have KS : Hid (∀ w', Below (w.heap.size + 1) u w' → w'.cell? ⟨w.heap.size, 0, none⟩ = some (.slice (some ⟨b1, o1, none⟩) n c1) ∧ w'.cell? ⟨w.heap.size, 1, none⟩ = some (.slice a2 n c2) ∧ Hid (Below (w.heap.size + 1) u w')) := fun w' hb =>
        ⟨(R0.out.of_block (hb.block _ (by omega))).cell (show 0 < 2 by decide), (R0.out.of_block (hb.block _ (by omega))).cell (show 1 < 2 by decide), hb⟩
      have KY : Hid (∀ w', Below u.heap.size u w' → w'.rowIs (w.heap.size + 1) 33 2 (rfc (.slice none 0 0) (.slice none 0 0))) := fun w' hb => R1.out.of_block (hb.block _ (by omega))
      have hbc : Hid (Below u.heap.size u u.drew) := (Below.refl _ _).drew
      clear y0 y1 z0 z1
      go_wp2
      go_region_held3 (fun w' => w'.cell? ⟨w.heap.size, 0, none⟩ = some (.slice (some ⟨b1, o1, none⟩) n c1) ∧ w'.cell? ⟨w.heap.size, 1, none⟩ = some (.slice a2 n c2) ∧ Hid (Below (w.heap.size + 1) u w'))
        (first
          | exact KS.out _ (hbc.out.mono (by omega))
          | exact KS.out _ (((hbc.out.mono (by omega)).setCell (by simp) _).setCell (by simp) _)
          | assumption)
        (first
          | (go_at_call_of 41 (Value.slice (some ⟨b1, o1, none⟩) n c1); refine (with_any (some ⟨b1, o1, none⟩) n c1 j 1 R _ (H1.out.keep (UB.out.trans (hbc.out.mono (by omega)))) N1.out C1.out hk hl).mono ?_; (rintro e v1 ⟨p1, q1, rfl, hL, hno, hnew, hB⟩; have hs := hbc.out.size; have V1 : Hid (Lst .i64 v1 p1 (R.set j 1) ∧ (p1 = none → q1 = 0) ∧ (∀ y, p1 = some y → w.heap.size + 2 ≤ y.block)) := ⟨hL, hno, fun y ey => by have := hnew y ey; omega⟩; have hbc : Hid (Below u.heap.size u v1) := below_then hbc.out hB; have y0 : v1.cell? ⟨w.heap.size + 1, 0, none⟩ = some (.slice none 0 0) := (KY.out _ hbc.out).cell (show 0 < 2 by decide); have y1 : v1.cell? ⟨w.heap.size + 1, 1, none⟩ = some (.slice none 0 0) := (KY.out _ hbc.out).cell (show 1 < 2 by decide); have z0 : v1.frozen? ⟨w.heap.size + 1, 0, none⟩ = false := (KY.out _ hbc.out).frozen 0; have z1 : v1.frozen? ⟨w.heap.size + 1, 1, none⟩ = false := (KY.out _ hbc.out).frozen 1; have B1 : Hid (Below _ _ v1) := hB; clear hL hno hnew hB hs))
          | (go_at_call_of 41 (Value.slice a2 n c2); refine (with_any a2 n c2 j m M _ (H2.out.keep (UB.out.trans (hbc.out.mono (by omega)))) N2.out C2.out hk hl).mono ?_; (rintro e v2 ⟨p2, q2, rfl, hL, hno, hnew, hB⟩; have hs := hbc.out.size; have V2 : Hid (Lst .i64 v2 p2 (M.set j m) ∧ (p2 = none → q2 = 0) ∧ (∀ y, p2 = some y → w.heap.size + 2 ≤ y.block)) := ⟨hL, hno, fun y ey => by have := hnew y ey; omega⟩; have hbc : Hid (Below u.heap.size u v2) := below_then hbc.out hB; have y0 : v2.cell? ⟨w.heap.size + 1, 0, none⟩ = some (.slice none 0 0) := (KY.out _ hbc.out).cell (show 0 < 2 by decide); have y1 : v2.cell? ⟨w.heap.size + 1, 1, none⟩ = some (.slice none 0 0) := (KY.out _ hbc.out).cell (show 1 < 2 by decide); have z0 : v2.frozen? ⟨w.heap.size + 1, 0, none⟩ = false := (KY.out _ hbc.out).frozen 0; have z1 : v2.frozen? ⟨w.heap.size + 1, 1, none⟩ = false := (KY.out _ hbc.out).frozen 1; have B2 : Hid (Below _ _ v2) := hB; clear hL hno hnew hB hs)))
      go_wp2
      have W2 : Hid (But2 (w.heap.size + 1) (w.heap.size + 1) v2 ((v2.setCell ⟨w.heap.size + 1, 0, none⟩ (.slice p1 n q1)).setCell ⟨w.heap.size + 1, 1, none⟩ (.slice p2 n q2))) := ((But2.refl _ _ v2).setG _ _).setG _ _
      refine bodyPost_ret (v := .tuple #[.agg #[.slice p1 n q1, .slice p2 n q2], .int .i64 j, .int .i64 0]) (by simp [results, Try.results26, go_sem, y0, y1]) rfl ⟨p1, q1, p2, q2, rfl, ?_, ?_, V1.out.2.1, V2.out.2.1, ?_, ?_, ?_⟩
      · exact W2.out.lst (V1.out.1.keep B2.out) (fun y ey => by have := V1.out.2.2 y ey; omega)
      · exact W2.out.lst V2.out.1 (fun y ey => by have := V2.out.2.2 y ey; omega)
      · intro y ey; have := V1.out.2.2 y ey; omega
      · intro y ey; have := V2.out.2.2 y ey; omega
      · exact UB.out.trans (((hbc.out.mono (by omega)).setCell (by simp) _).setCell (by simp) _)
    · have nz := HF.out j (by omega)
      obtain ⟨x, ex⟩ : ∃ x, Ls.nth R j = x := ⟨_, rfl⟩
      rw [ex] at s0 nz
      have z0 : (x == 0) = false := beq_eq_false_iff_ne.2 nz
      subst e1
      clear ex
      go_wp2
      go_round
      case rel => exact ⟨j + 1, by omega, by go_num⟩
      case measure => simp [intOf]; omega
end Go.Proofs.Ytpifemahakbegaa
/- Contracts of the document's own answers of layer 10: a count changed. -/
namespace Go.Proofs.Ytpifemahakbegaa
set_option linter.unusedVariables false
set_option linter.unusedSimpArgs false
open Go.RowKit

set_option maxHeartbeats 800000 in
theorem refChange_none (a1 a2 : Option Addr) (n c1 n2 c2 : Nat) (id by' : Int) (R : List Int) (w : World) (h : Lst .i64 w a1 R) (hn : R.length = n) (hr : ¬ (0 ≤ id ∧ id < n ∧ 0 < Ls.nth R id.toNat)) :
    Calls Try.prog 42 #[.agg #[.slice a1 n c1, .slice a2 n2 c2], .int .i64 id, .int .i64 by'] w fun e w' => e = .returned (.tuple #[.agg #[.slice a1 n c1, .slice a2 n2 c2], .int .i64 14]) ∧ Below w.heap.size w w' := by
  have HL : Hid (Lst .i64 w a1 R) := h
  have HN : Hid (R.length = n) := hn
  have HR : Hid (¬ (0 ≤ id ∧ id < n ∧ 0 < Ls.nth R id.toNat)) := hr
  clear h hn hr
  go_enter Try.func42, Try.ntmps42
  go_wp2_with fail
  obtain ⟨u, hu⟩ : ∃ u, (w.alloc (.cells #[.slice a1 n c1, .slice a2 n2 c2] 33)).alloc (.cells #[.slice none 0 0, .slice none 0 0] 33) = u := ⟨_, rfl⟩
  have UB : Hid (Below w.heap.size w u) := by rw [← hu]; exact two_boxes _ _ _
  have US : u.heap.size = w.heap.size + 2 := by rw [← hu]; simp
  have R0 : Hid (u.rowIs w.heap.size 33 2 (rfc (.slice a1 n c1) (.slice a2 n2 c2))) := by rw [← hu]; exact (rfc_alloc _ _ _ _).of_block (Below.heap_alloc _ _ _ (by simp))
  have R1 : Hid (u.rowIs (w.heap.size + 1) 33 2 (rfc (.slice none 0 0) (.slice none 0 0))) := by rw [← hu]; have := rfc_alloc (w.alloc (.cells #[.slice a1 n c1, .slice a2 n2 c2] 33)) (.slice none 0 0) (.slice none 0 0) 33; show World.rowIs _ _ _ _ _; simpa using this
  rw [hu]
  clear hu
  refine (refIs_no a1 a2 n c1 n2 c2 id R u (HL.out.keep UB.out) HN.out HR.out).mono ?_
  rintro e w' ⟨rfl, hb⟩
  have HB : Hid (Below u.heap.size u w') := hb
  have d0 : w'.cell? ⟨w.heap.size, 0, none⟩ = some (.slice a1 n c1) := (R0.out.of_block (hb.block _ (by omega))).cell (show 0 < 2 by decide)
  have d1 : w'.cell? ⟨w.heap.size, 1, none⟩ = some (.slice a2 n2 c2) := (R0.out.of_block (hb.block _ (by omega))).cell (show 1 < 2 by decide)
  have y0 : w'.cell? ⟨w.heap.size + 1, 0, none⟩ = some (.slice none 0 0) := (R1.out.of_block (hb.block _ (by omega))).cell (show 0 < 2 by decide)
  have y1 : w'.cell? ⟨w.heap.size + 1, 1, none⟩ = some (.slice none 0 0) := (R1.out.of_block (hb.block _ (by omega))).cell (show 1 < 2 by decide)
  have z0 : w'.frozen? ⟨w.heap.size + 1, 0, none⟩ = false := (R1.out.of_block (hb.block _ (by omega))).frozen 0
  have z1 : w'.frozen? ⟨w.heap.size + 1, 1, none⟩ = false := (R1.out.of_block (hb.block _ (by omega))).frozen 1
  clear hb
  go_wp2
  refine bodyPost_ret (v := .tuple #[.agg #[.slice a1 n c1, .slice a2 n2 c2], .int .i64 14]) (by simp [results, Try.results42, go_sem, y0, y1]) rfl ⟨rfl, ?_⟩
  exact UB.out.trans (((HB.out.mono (by omega)).setCell (by simp) _).setCell (by simp) _)

set_option maxRecDepth 100000 in
set_option maxHeartbeats 3200000 in
theorem refChange_ok (a1 a2 : Option Addr) (n c1 n2 c2 k : Nat) (x y b : Int) (R : List Int) (w : World) (h : Lst .i64 w a1 R) (hn : R.length = n) (hc : a1 = none → c1 = 0) (hk : k < n) (ex : Ls.nth R k = x) (hr : 0 < x) (hy : x + b = y) (hb1 : -2 ≤ b ∧ b ≤ 2) (hx : x < 1000000) (hl : n ≤ 16384) :
    Calls Try.prog 42 #[.agg #[.slice a1 n c1, .slice a2 n2 c2], .int .i64 k, .int .i64 b] w fun e w' => ∃ p q, e = .returned (.tuple #[.agg #[.slice p n q, .slice a2 n2 c2], .int .i64 0]) ∧ Lst .i64 w' p (R.set k y) ∧ (p = none → q = 0) ∧ (∀ y, p = some y → w.heap.size ≤ y.block) ∧ Below w.heap.size w w' := by
  have HL : Hid (Lst .i64 w a1 R) := h
  have HN : Hid (R.length = n) := hn
  have HC : Hid (a1 = none → c1 = 0) := hc
  have HR : Hid (0 < Ls.nth R k) := by show 0 < Ls.nth R k; rw [ex]; exact hr
  obtain ⟨b1, o1, rfl, hg⟩ := HL.out.get (show k < R.length by rw [HN.out]; exact hk)
  have s0 := hg k (by rw [HN.out]; exact hk)
  rw [ex] at s0
  have l0 := World.block_lt_of_cell? w _ s0
  have S0 : Hid (w.cell? ⟨b1, o1 + k, none⟩ = some (.int .i64 x)) := s0
  have wr1 : IntKind.i64.wrap y = y := by rw [IntKind.wrap_i64]; omega
  clear h hn hc hg s0 ex
  go_enter Try.func42, Try.ntmps42
  go_wp2_with fail
  obtain ⟨u, hu⟩ : ∃ u, (w.alloc (.cells #[.slice (some ⟨b1, o1, none⟩) n c1, .slice a2 n2 c2] 33)).alloc (.cells #[.slice none 0 0, .slice none 0 0] 33) = u := ⟨_, rfl⟩
  have UB : Hid (Below w.heap.size w u) := by rw [← hu]; exact two_boxes _ _ _
  have US : u.heap.size = w.heap.size + 2 := by rw [← hu]; simp
  have R0 : Hid (u.rowIs w.heap.size 33 2 (rfc (.slice (some ⟨b1, o1, none⟩) n c1) (.slice a2 n2 c2))) := by rw [← hu]; exact (rfc_alloc _ _ _ _).of_block (Below.heap_alloc _ _ _ (by simp))
  have R1 : Hid (u.rowIs (w.heap.size + 1) 33 2 (rfc (.slice none 0 0) (.slice none 0 0))) := by rw [← hu]; have := rfc_alloc (w.alloc (.cells #[.slice (some ⟨b1, o1, none⟩) n c1, .slice a2 n2 c2] 33)) (.slice none 0 0) (.slice none 0 0) 33; show World.rowIs _ _ _ _ _; simpa using this
  rw [hu]
  clear hu
  refine (refIs_yes (some ⟨b1, o1, none⟩) a2 n c1 n2 c2 k R u (HL.out.keep UB.out) HN.out hk HR.out).mono ?_
  rintro e w1 ⟨rfl, hb⟩
  have HB : Hid (Below u.heap.size u w1) := hb
  have hs1 := hb.size
  have KS : Hid (∀ w', Below (w.heap.size + 1) u w' → w'.cell? ⟨w.heap.size, 0, none⟩ = some (.slice (some ⟨b1, o1, none⟩) n c1) ∧ w'.cell? ⟨w.heap.size, 1, none⟩ = some (.slice a2 n2 c2) ∧ w'.cell? ⟨b1, o1 + k, none⟩ = some (.int .i64 x) ∧ Hid (Below (w.heap.size + 1) u w')) := fun w' hb =>
    ⟨(R0.out.of_block (hb.block _ (by omega))).cell (show 0 < 2 by decide), (R0.out.of_block (hb.block _ (by omega))).cell (show 1 < 2 by decide), by rw [(UB.out.trans (hb.mono (by omega))).cell (p := ⟨b1, o1 + k, none⟩) l0]; exact S0.out, hb⟩
  have KY : Hid (∀ w', Below u.heap.size u w' → w'.rowIs (w.heap.size + 1) 33 2 (rfc (.slice none 0 0) (.slice none 0 0))) := fun w' hb => R1.out.of_block (hb.block _ (by omega))
  have hbc : Hid (Below u.heap.size u w1.drew) := hb.drew
  clear hb
  go_wp2_with fail
  go_region_held3 (fun w' => w'.cell? ⟨w.heap.size, 0, none⟩ = some (.slice (some ⟨b1, o1, none⟩) n c1) ∧ w'.cell? ⟨w.heap.size, 1, none⟩ = some (.slice a2 n2 c2) ∧ w'.cell? ⟨b1, o1 + k, none⟩ = some (.int .i64 x) ∧ Hid (Below (w.heap.size + 1) u w'))
    (first
      | exact KS.out _ (hbc.out.mono (by omega))
      | exact KS.out _ (((hbc.out.mono (by omega)).setCell (by simp) _).setCell (by simp) _)
      | assumption)
    (first
      | (go_at_call 41; (with_reducible refine (with_any (some ⟨b1, o1, none⟩) n c1 k y R _ (HL.out.keep (UB.out.trans (hbc.out.mono (by omega)))) HN.out HC.out hk hl).mono ?_); (rintro e v1 ⟨p1, q1, rfl, hL, hno, hnew, hB⟩; have hs := hbc.out.size; have V1 : Hid (Lst .i64 v1 p1 (R.set k y) ∧ (p1 = none → q1 = 0) ∧ (∀ y, p1 = some y → w.heap.size + 2 ≤ y.block)) := ⟨hL, hno, fun y ey => by have := hnew y ey; omega⟩; have hbc : Hid (Below u.heap.size u v1) := below_then hbc.out hB; have y0 : v1.cell? ⟨w.heap.size + 1, 0, none⟩ = some (.slice none 0 0) := (KY.out _ hbc.out).cell (show 0 < 2 by decide); have y1 : v1.cell? ⟨w.heap.size + 1, 1, none⟩ = some (.slice none 0 0) := (KY.out _ hbc.out).cell (show 1 < 2 by decide); have z0 : v1.frozen? ⟨w.heap.size + 1, 0, none⟩ = false := (KY.out _ hbc.out).frozen 0; have z1 : v1.frozen? ⟨w.heap.size + 1, 1, none⟩ = false := (KY.out _ hbc.out).frozen 1; clear hL hno hnew hB hs)))
  go_wp2
  have W2 : Hid (But2 (w.heap.size + 1) (w.heap.size + 1) v1 ((v1.setCell ⟨w.heap.size + 1, 0, none⟩ (.slice p1 n q1)).setCell ⟨w.heap.size + 1, 1, none⟩ (.slice a2 n2 c2))) := ((But2.refl _ _ v1).setG _ _).setG _ _
  refine bodyPost_ret (v := .tuple #[.agg #[.slice p1 n q1, .slice a2 n2 c2], .int .i64 0]) (by simp [results, Try.results42, go_sem, y0, y1]) rfl ⟨p1, q1, rfl, ?_, V1.out.2.1, ?_, ?_⟩
  · exact W2.out.lst V1.out.1 (fun y ey => by have := V1.out.2.2 y ey; omega)
  · intro y ey; have := V1.out.2.2 y ey; omega
  · exact UB.out.trans (((hbc.out.mono (by omega)).setCell (by simp) _).setCell (by simp) _)
end Go.Proofs.Ytpifemahakbegaa
/- Layer 10's fixed answers. -/
namespace Go.Proofs.Ytpifemahakbegaa
set_option linter.unusedVariables false
open Go.RowKit

theorem field_mark (x0 x1 x2 x3 x4 x5 m : Int) : ∀ w : World, (Instr.field 55 (.agg #[.int .i64 x0, .int .i64 x1, .int .i64 x2, .int .i64 x3, .int .i64 x4, .int .i64 x5, .int .i64 m]) 6).run Try.prog w = .ok (.int .i64 m) w := fun _ => by kernel_rfl

end Go.Proofs.Ytpifemahakbegaa
