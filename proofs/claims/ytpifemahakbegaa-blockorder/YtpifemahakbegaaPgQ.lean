/- Keys and values, quantized: the document's answer (layer 8). -/
import Derived.Test.YtpifemahakbegaaPgQuant
import Derived.Test.YtpifemahakbegaaPgShapes
import Derived.Deep.RegionLaw
import Derived.Deep.RegionLawGrows
namespace Go.Proofs.Ytpifemahakbegaa
set_option linter.unusedVariables false
open Go.RowKit
attribute [local go_sem ↓] Go.wp_at_zero Go.wp_at_succ

/-- The nine cells of a page: its head, its two lists. -/
def pcell (H : Array Value) (v7 v8 : Value) (i : Nat) : Value := if i = 7 then v7 else if i = 8 then v8 else H.getD i undef
theorem pcell_set7 (H : Array Value) (v7 v8 v : Value) (j : Nat) : (if j = 7 then v else pcell H v7 v8 j) = pcell H v v8 j := by
  unfold pcell
  by_cases e : j = 7
  · rw [if_pos e, if_pos e]
  · rw [if_neg e, if_neg e, if_neg e]
theorem pcell_set8 (H : Array Value) (v7 v8 v : Value) (j : Nat) : (if j = 8 then v else pcell H v7 v8 j) = pcell H v7 v j := by
  unfold pcell
  by_cases e : j = 8
  · rw [if_pos e, if_neg (by omega), if_pos e]
  · simp [e]
theorem Pg.own3 {w : World} {base : Nat} {t : TypeId} {v : Value} {n : Nat} {xs : List Value} (h : w.ownsRow base t 3 v n xs) : ∃ a c, v = .slice a n c := by
  rcases h.2 with ⟨e, hn⟩ | ⟨g, cap, cur, e, _⟩
  · exact ⟨none, 0, by rw [e, hn]⟩
  · exact ⟨_, _, e⟩
theorem own3_at {w w' : World} {base : Nat} {t : TypeId} {v : Value} {n : Nat} {xs : List Value} (h : w.ownsRow base t 3 v n xs) (hb : ∀ g, v.ownBlock = some g → w'.heap[g]? = w.heap[g]?) : w'.ownsRow base t 3 v n xs := by
  refine ⟨h.1, ?_⟩
  rcases h.2 with h0 | ⟨g, cap, cur, e, h1, h2, h3⟩
  · exact Or.inl h0
  · refine Or.inr ⟨g, cap, cur, e, h1, ?_, h3⟩
    subst e
    rw [hb g rfl]
    exact h2
theorem own3_below {w w' : World} {base : Nat} {t : TypeId} {v : Value} {n : Nat} {xs : List Value} (h : w.ownsRow base t 3 v n xs) (hb : Below w.heap.size w w') : w'.ownsRow base t 3 v n xs :=
  own3_at h fun g hg => hb.block g (h.lt g hg).2
theorem own3_set {w : World} {base : Nat} {t : TypeId} {v : Value} {n : Nat} {xs : List Value} (h : w.ownsRow base t 3 v n xs) {p : Addr} (hp : p.block < base) (y : Value) : (w.setCell p y).ownsRow base t 3 v n xs :=
  own3_at h fun g hg => Go.Deep.blk_setCell_other _ _ _ _ (by have := (h.lt g hg).1; omega)
theorem Lst.grown {k : IntKind} {w w' : World} {a : Option Addr} {l : List Int} {row : Option Nat} (h : Lst k w a l) (hg : w.grownBy w' row) (ne : ∀ x, a = some x → some x.block ≠ row) : Lst k w' a l := fun i hi => by
  obtain ⟨b, o, e, hc⟩ := h i hi
  refine ⟨b, o, e, ?_⟩
  rw [hg.cell_far ⟨b, o + i, none⟩ (World.block_lt_of_cell? w _ hc) (ne ⟨b, o, none⟩ e)]
  exact hc
theorem Lst.set_otherP {k : IntKind} {w : World} {a : Option Addr} {l : List Int} (h : Lst k w a l) {p : Addr} (hp : ∀ x, a = some x → ¬ x.block = p.block) (v : Value) : Lst k (w.setCell p v) a l := fun i hi => by
  obtain ⟨b, o, e, hc⟩ := h i hi
  refine ⟨b, o, e, ?_⟩
  rw [World.cell?_of_block (Go.Deep.blk_setCell_other w p v b (hp ⟨b, o, none⟩ e))]
  exact hc
/-- All blocks of u but one stand. -/
def Keeps (u w' : World) (P : Nat) : Prop := u.heap.size ≤ w'.heap.size ∧ ∀ g, g < u.heap.size → ¬ g = P → w'.heap[g]? = u.heap[g]?
theorem Keeps.refl (u : World) (P : Nat) : Keeps u u P := ⟨Nat.le_refl _, fun _ _ _ => rfl⟩
theorem Keeps.below {u v w' : World} {P : Nat} (h : Keeps u v P) (hb : Below v.heap.size v w') : Keeps u w' P := ⟨Nat.le_trans h.1 hb.size, fun g hg hp => by have := h.1; rw [hb.block g (by omega), h.2 g hg hp]⟩
theorem Keeps.set {u v : World} {P : Nat} (h : Keeps u v P) (o : Nat) (y : Value) : Keeps u (v.setCell ⟨P, o, none⟩ y) P := ⟨by rw [Go.Deep.nblk_setCell]; exact h.1, fun g hg hp => by rw [Go.Deep.blk_setCell_other v ⟨P, o, none⟩ y g hp, h.2 g hg hp]⟩
theorem Keeps.grown {u v w' : World} {P : Nat} {row : Option Nat} (h : Keeps u v P) (hg : v.grownBy w' row) (hr : ∀ g, row = some g → u.heap.size ≤ g) : Keeps u w' P := ⟨Nat.le_trans h.1 hg.size, fun g hlt hp => by
  have := h.1
  rw [hg.block g (by omega) (fun e => by have := hr g e.symm; omega), h.2 g hlt hp]⟩
theorem Keeps.lst {u w' : World} {P : Nat} {k : IntKind} {a : Option Addr} {l : List Int} (h : Keeps u w' P) (hl : Lst k u a l) (hp : ∀ x, a = some x → ¬ x.block = P) : Lst k w' a l := fun i hi => by
  obtain ⟨b, o, e, hc⟩ := hl i hi
  refine ⟨b, o, e, ?_⟩
  rw [World.cell?_of_block (h.2 b (World.block_lt_of_cell? u _ hc) (hp ⟨b, o, none⟩ e))]
  exact hc
theorem gflat_snoc {l : List (Int × Int × List Int)} {A : Nat → Option Addr} {C : Nat → Nat} {k n : Nat} {z sc : Int} {cd : List Int} {a9 : Option Addr} {c9 : Nat} (e : Pg.nth l k = (z, sc, cd)) (hn : cd.length = n) :
    gflat l (fun j => if j = k then a9 else A j) (fun j => if j = k then c9 else C j) (k + 1) = gflat l A C k ++ [.int .i32 z, .int .u32 sc, .slice a9 n c9] := by
  simp only [gflat]
  rw [gflat_congr (m := l) (B := A) (D := C) k (fun i hi => ⟨rfl, if_neg (by omega), if_neg (by omega)⟩), e, if_pos trivial, if_pos trivial]
  rw [show (Pg.gc (z, sc, cd)).length = n from hn]
  rfl
theorem gps_final {w F : World} {base P n : Nat} {t : TypeId} {x : Option Addr} {e : Nat} {l : List (Int × Int × List Int)} {A : Nat → Option Addr} {C : Nat → Nat} (h : w.ownsRow base t 3 (.slice x n e) n (gflat l A C n)) (hn : n = l.length)
    (hl : ∀ i, i < l.length → Lst .i64 w (A i) (Pg.gc (Pg.nth l i)) ∧ ∀ y, A i = some y → ¬ y.block = P) (hp : P < base) (hs : ∀ g, ¬ g = P → F.heap[g]? = w.heap[g]?) : Gps F x l := by
  obtain ⟨a, c, h1, h2⟩ := gps_of_own (w := F) (own3_at h fun g hg => hs g (by have := (h.lt g hg).1; omega)) hn (fun i hi => by
    obtain ⟨q1, q2⟩ := hl i hi
    intro j hj
    obtain ⟨b, o, eb, hc⟩ := q1 j hj
    refine ⟨b, o, eb, ?_⟩
    rw [World.cell?_of_block (hs b (q2 ⟨b, o, none⟩ eb))]
    exact hc)
  cases h1
  exact h2
/-- A column, number by number. -/
theorem Pg.col_snoc (ls : List (List Int)) (i j : Nat) : (Ls.gen (j + 1) fun k => Ls.nth (Tb.row ls k) i) = (Ls.gen j fun k => Ls.nth (Tb.row ls k) i) ++ [Ls.nth (Tb.row ls j) i] := Ls.gen_succ _ _

end Go.Proofs.Ytpifemahakbegaa
