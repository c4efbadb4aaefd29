/- Rows of structs that a call itself makes and fills; packed groups and pages in memory (layer 8, the program's own). -/
import Derived.Test.YtgpjmbhcfjafmaaPgQ
namespace Go.Proofs.Ytgpjmbhcfjafmaa
set_option linter.unusedVariables false
open Go.RowKit

theorem run_make_rows {P : Program} (t e : TypeId) (z : Value) (zs : Array Value) (m bytes : Nat) (hzs : z.cells = zs) (ht : P.underlying t = some (.slice e)) (hinfo : (P.info? e).map (fun i => (i.zero, i.size, i.bytes)) = some (some z, m, bytes)) (kl kc : IntKind) (n : Nat) (hb : bytes * n ≤ 281474976710656) (h63 : n ≤ 9223372036854775807) :
    ∀ w : World, (Instr.makeSlice t (.int kl (n : Int)) (.int kc (n : Int))).run P w = .ok (.slice (some ⟨w.heap.size, 0, none⟩) n n) (w.alloc (.cells (madeCells zs (n * m)) e)) := by
  subst hzs
  obtain ⟨i, hi, h1, h2, h3⟩ := info_parts hinfo
  intro w
  have hb' : (i.bytes : Int) * (n : Int) ≤ 281474976710656 := by
    rw [h3]
    have h : ((bytes * n : Nat) : Int) ≤ 281474976710656 := by omega
    rwa [Int.natCast_mul] at h
  have hr := run_make (P := P) w t e i z ht hi h1 kl kc n n (by omega) (Int.le_refl _) hb' (by omega)
  simp only [Int.toNat_natCast] at hr
  rw [hr, h2]

theorem row_made (w : World) (zs : Array Value) (N : Nat) (t : TypeId) : (w.alloc (.cells (madeCells zs N) t)).rowIs w.heap.size t N (fun j => zs[j % zs.size]!) :=
  ⟨_, heap_alloc_new _ _, size_madeCells _ _, fun i hi => by simp [madeCells, hi]⟩

theorem row_keep {w w' : World} {g : Nat} {t : TypeId} {N : Nat} {f : Nat → Value} (h : w.rowIs g t N f) (hb : Below w.heap.size w w') : w'.rowIs g t N f := World.rowIs.of_block h (hb.block g h.lt)

/-- A ROW OF GROUPS AT BLOCK g, the first k of them laid: their codes lie behind the row. -/
def GRow (w : World) (g : Nat) (t : TypeId) (N : Nat) (l : List (Int × Int × List Int)) (k : Nat) : Prop :=
  ∃ f, w.rowIs g t N f ∧ ∀ i, i < k → ∃ a c, f (i * 3) = .int .i32 (Pg.gz (Pg.nth l i)) ∧ f (i * 3 + 1) = .int .u32 (Pg.gs (Pg.nth l i)) ∧ f (i * 3 + 2) = .slice a (Pg.gc (Pg.nth l i)).length c ∧ Lst .i64 w a (Pg.gc (Pg.nth l i)) ∧ ∀ x, a = some x → g < x.block
theorem GRow.made (w : World) (zs : Array Value) (N : Nat) (t : TypeId) (l : List (Int × Int × List Int)) : GRow (w.alloc (.cells (madeCells zs N) t)) w.heap.size t N l 0 := ⟨_, row_made w zs N t, fun i hi => by omega⟩
theorem GRow.keep {w w' : World} {g : Nat} {t : TypeId} {N : Nat} {l : List (Int × Int × List Int)} {k : Nat} (h : GRow w g t N l k) (hb : Below w.heap.size w w') : GRow w' g t N l k := by
  obtain ⟨f, hr, hc⟩ := h
  refine ⟨f, row_keep hr hb, fun i hi => ?_⟩
  obtain ⟨a, c, h0, h1, h2, h3, h4⟩ := hc i hi
  exact ⟨a, c, h0, h1, h2, h3.keep hb, h4⟩
theorem GRow.lt {w : World} {g : Nat} {t : TypeId} {N : Nat} {l : List (Int × Int × List Int)} {k : Nat} (h : GRow w g t N l k) : g < w.heap.size := by
  obtain ⟨f, hr, _⟩ := h
  exact hr.lt
theorem GRow.room {w : World} {g : Nat} {t : TypeId} {N : Nat} {l : List (Int × Int × List Int)} {k : Nat} (h : GRow w g t N l k) : ∃ f, w.rowIs g t N f := by
  obtain ⟨f, hr, _⟩ := h
  exact ⟨f, hr⟩
theorem GRow.step {w : World} {g : Nat} {t : TypeId} {N : Nat} {l : List (Int × Int × List Int)} {k : Nat} (h : GRow w g t N l k) {a : Option Addr} {c n : Nat} {z sc : Int} (ez : Pg.gz (Pg.nth l k) = z) (es : Pg.gs (Pg.nth l k) = sc) (en : (Pg.gc (Pg.nth l k)).length = n) (hl : Lst .i64 w a (Pg.gc (Pg.nth l k))) (hx : ∀ x, a = some x → g < x.block) :
    GRow (((w.setCell ⟨g, k * 3, none⟩ (.int .i32 z)).setCell ⟨g, k * 3 + 1, none⟩ (.int .u32 sc)).setCell ⟨g, k * 3 + 2, none⟩ (.slice a n c)) g t N l (k + 1) := by
  obtain ⟨f, hr, hc⟩ := h
  have other : ∀ (b : Option Addr) (m : List Int), Lst .i64 w b m → (∀ x, b = some x → g < x.block) → Lst .i64 (((w.setCell ⟨g, k * 3, none⟩ (.int .i32 z)).setCell ⟨g, k * 3 + 1, none⟩ (.int .u32 sc)).setCell ⟨g, k * 3 + 2, none⟩ (.slice a n c)) b m := fun b m hb hg =>
    ((hb.set_otherP (p := ⟨g, k * 3, none⟩) (fun x e => by have := hg x e; show ¬ x.block = g; omega) _).set_otherP (p := ⟨g, k * 3 + 1, none⟩) (fun x e => by have := hg x e; show ¬ x.block = g; omega) _).set_otherP (p := ⟨g, k * 3 + 2, none⟩) (fun x e => by have := hg x e; show ¬ x.block = g; omega) _
  refine ⟨_, ((hr.set (k * 3) _).set (k * 3 + 1) _).set (k * 3 + 2) _, fun i hi => ?_⟩
  by_cases e : i = k
  · subst e
    refine ⟨a, c, ?_, ?_, ?_, other a _ hl hx, hx⟩
    · rw [if_neg (by omega), if_neg (by omega), if_pos rfl, ez]
    · rw [if_neg (by omega), if_pos rfl, es]
    · rw [if_pos rfl, en]
  · obtain ⟨a', c', h0, h1, h2, h3, h4⟩ := hc i (by omega)
    refine ⟨a', c', ?_, ?_, ?_, other a' _ h3 h4, h4⟩
    · rw [if_neg (by omega), if_neg (by omega), if_neg (by omega), h0]
    · rw [if_neg (by omega), if_neg (by omega), if_neg (by omega), h1]
    · rw [if_neg (by omega), if_neg (by omega), if_neg (by omega), h2]
theorem GRow.gps {w : World} {g : Nat} {t : TypeId} {N : Nat} {l : List (Int × Int × List Int)} (h : GRow w g t N l l.length) (hN : N = l.length * 3) : Gps w (some ⟨g, 0, none⟩) l := by
  obtain ⟨f, hr, hc⟩ := h
  intro i hi
  obtain ⟨a, c, h0, h1, h2, h3, _⟩ := hc i hi
  refine ⟨g, 0, a, c, rfl, ?_, ?_, ?_, h3⟩
  · rw [Nat.zero_add, hr.cell (by omega), h0]
  · rw [Nat.zero_add, hr.cell (by omega), h1]
  · rw [Nat.zero_add, hr.cell (by omega), h2]

/-- A PACKED GROUP: place i of the row at block g; its words, of b bits. -/
def PkAt (w : World) (g i b : Nat) (x : Int × Int × List Int) (a : Option Addr) (c : Nat) : Prop :=
  w.cell? ⟨g, i * 4, none⟩ = some (.int .i32 (Pg.gz x)) ∧ w.cell? ⟨g, i * 4 + 1, none⟩ = some (.int .u32 (Pg.gs x)) ∧ w.cell? ⟨g, i * 4 + 2, none⟩ = some (.slice none 0 0) ∧ w.cell? ⟨g, i * 4 + 3, none⟩ = some (.slice a (Pk.size b (Pg.gc x).length) c) ∧ Lst .u64 w a (Pk.pack b (Pg.gc x))
/-- THE ROW AT BLOCK g READS AS THE GROUPS l, packed. -/
def Pks (w : World) (g b : Nat) (l : List (Int × Int × List Int)) : Prop := ∀ i, i < l.length → ∃ a c, PkAt w g i b (Pg.nth l i) a c
theorem PkAt.keep {w w' : World} {g i b : Nat} {x : Int × Int × List Int} {a : Option Addr} {c : Nat} (h : PkAt w g i b x a c) (hb : Below w.heap.size w w') : PkAt w' g i b x a c := by
  obtain ⟨h0, h1, h2, h3, h4⟩ := h
  refine ⟨?_, ?_, ?_, ?_, h4.keep hb⟩
  · rw [hb.cell (p := ⟨g, i * 4, none⟩) (World.block_lt_of_cell? w _ h0)]; exact h0
  · rw [hb.cell (p := ⟨g, i * 4 + 1, none⟩) (World.block_lt_of_cell? w _ h1)]; exact h1
  · rw [hb.cell (p := ⟨g, i * 4 + 2, none⟩) (World.block_lt_of_cell? w _ h2)]; exact h2
  · rw [hb.cell (p := ⟨g, i * 4 + 3, none⟩) (World.block_lt_of_cell? w _ h3)]; exact h3
theorem Pks.keep {w w' : World} {g b : Nat} {l : List (Int × Int × List Int)} (h : Pks w g b l) (hb : Below w.heap.size w w') : Pks w' g b l := fun i hi => by
  obtain ⟨a, c, h'⟩ := h i hi
  exact ⟨a, c, h'.keep hb⟩
/-- A row of packed groups, the first k laid. -/
def PRow (w : World) (g : Nat) (t : TypeId) (N b : Nat) (l : List (Int × Int × List Int)) (k : Nat) : Prop :=
  ∃ f, w.rowIs g t N f ∧ ∀ i, i < k → ∃ a c, f (i * 4) = .int .i32 (Pg.gz (Pg.nth l i)) ∧ f (i * 4 + 1) = .int .u32 (Pg.gs (Pg.nth l i)) ∧ f (i * 4 + 2) = .slice none 0 0 ∧ f (i * 4 + 3) = .slice a (Pk.size b (Pg.gc (Pg.nth l i)).length) c ∧ Lst .u64 w a (Pk.pack b (Pg.gc (Pg.nth l i))) ∧ ∀ x, a = some x → g < x.block
theorem PRow.made (w : World) (zs : Array Value) (N b : Nat) (t : TypeId) (l : List (Int × Int × List Int)) : PRow (w.alloc (.cells (madeCells zs N) t)) w.heap.size t N b l 0 := ⟨_, row_made w zs N t, fun i hi => by omega⟩
theorem PRow.keep {w w' : World} {g : Nat} {t : TypeId} {N b : Nat} {l : List (Int × Int × List Int)} {k : Nat} (h : PRow w g t N b l k) (hb : Below w.heap.size w w') : PRow w' g t N b l k := by
  obtain ⟨f, hr, hc⟩ := h
  refine ⟨f, row_keep hr hb, fun i hi => ?_⟩
  obtain ⟨a, c, h0, h1, h2, h3, h4, h5⟩ := hc i hi
  exact ⟨a, c, h0, h1, h2, h3, h4.keep hb, h5⟩
theorem PRow.lt {w : World} {g : Nat} {t : TypeId} {N b : Nat} {l : List (Int × Int × List Int)} {k : Nat} (h : PRow w g t N b l k) : g < w.heap.size := by
  obtain ⟨f, hr, _⟩ := h
  exact hr.lt
theorem PRow.room {w : World} {g : Nat} {t : TypeId} {N b : Nat} {l : List (Int × Int × List Int)} {k : Nat} (h : PRow w g t N b l k) : ∃ f, w.rowIs g t N f := by
  obtain ⟨f, hr, _⟩ := h
  exact ⟨f, hr⟩
theorem PRow.step {w : World} {g : Nat} {t : TypeId} {N b : Nat} {l : List (Int × Int × List Int)} {k : Nat} (h : PRow w g t N b l k) {a : Option Addr} {c n : Nat} {z sc : Int} (ez : Pg.gz (Pg.nth l k) = z) (es : Pg.gs (Pg.nth l k) = sc) (en : Pk.size b (Pg.gc (Pg.nth l k)).length = n) (hl : Lst .u64 w a (Pk.pack b (Pg.gc (Pg.nth l k)))) (hx : ∀ x, a = some x → g < x.block) :
    PRow ((((w.setCell ⟨g, k * 4, none⟩ (.int .i32 z)).setCell ⟨g, k * 4 + 1, none⟩ (.int .u32 sc)).setCell ⟨g, k * 4 + 2, none⟩ (.slice none 0 0)).setCell ⟨g, k * 4 + 3, none⟩ (.slice a n c)) g t N b l (k + 1) := by
  obtain ⟨f, hr, hc⟩ := h
  have other : ∀ (y : Option Addr) (m : List Int), Lst .u64 w y m → (∀ x, y = some x → g < x.block) → Lst .u64 ((((w.setCell ⟨g, k * 4, none⟩ (.int .i32 z)).setCell ⟨g, k * 4 + 1, none⟩ (.int .u32 sc)).setCell ⟨g, k * 4 + 2, none⟩ (.slice none 0 0)).setCell ⟨g, k * 4 + 3, none⟩ (.slice a n c)) y m := fun y m hb hg =>
    (((hb.set_otherP (p := ⟨g, k * 4, none⟩) (fun x e => by have := hg x e; show ¬ x.block = g; omega) _).set_otherP (p := ⟨g, k * 4 + 1, none⟩) (fun x e => by have := hg x e; show ¬ x.block = g; omega) _).set_otherP (p := ⟨g, k * 4 + 2, none⟩) (fun x e => by have := hg x e; show ¬ x.block = g; omega) _).set_otherP (p := ⟨g, k * 4 + 3, none⟩) (fun x e => by have := hg x e; show ¬ x.block = g; omega) _
  refine ⟨_, (((hr.set (k * 4) _).set (k * 4 + 1) _).set (k * 4 + 2) _).set (k * 4 + 3) _, fun i hi => ?_⟩
  by_cases e : i = k
  · subst e
    refine ⟨a, c, ?_, ?_, ?_, ?_, other a _ hl hx, hx⟩
    · rw [if_neg (by omega), if_neg (by omega), if_neg (by omega), if_pos rfl, ez]
    · rw [if_neg (by omega), if_neg (by omega), if_pos rfl, es]
    · rw [if_neg (by omega), if_pos rfl]
    · rw [if_pos rfl, en]
  · obtain ⟨a', c', h0, h1, h2, h3, h4, h5⟩ := hc i (by omega)
    refine ⟨a', c', ?_, ?_, ?_, ?_, other a' _ h4 h5, h5⟩
    · rw [if_neg (by omega), if_neg (by omega), if_neg (by omega), if_neg (by omega), h0]
    · rw [if_neg (by omega), if_neg (by omega), if_neg (by omega), if_neg (by omega), h1]
    · rw [if_neg (by omega), if_neg (by omega), if_neg (by omega), if_neg (by omega), h2]
    · rw [if_neg (by omega), if_neg (by omega), if_neg (by omega), if_neg (by omega), h3]
theorem PRow.pks {w : World} {g : Nat} {t : TypeId} {N b : Nat} {l : List (Int × Int × List Int)} (h : PRow w g t N b l l.length) (hN : N = l.length * 4) : Pks w g b l := by
  obtain ⟨f, hr, hc⟩ := h
  intro i hi
  obtain ⟨a, c, h0, h1, h2, h3, h4, _⟩ := hc i hi
  refine ⟨a, c, ?_, ?_, ?_, ?_, h4⟩
  · rw [hr.cell (by omega), h0]
  · rw [hr.cell (by omega), h1]
  · rw [hr.cell (by omega), h2]
  · rw [hr.cell (by omega), h3]

/-- THE NINE CELLS OF A PAGE. -/
def pgc (m0 m1 n d : Nat) (h4 h5 h6 : Int) (v7 v8 : Value) (i : Nat) : Value :=
  if i = 0 then .int .i64 m0 else if i = 1 then .int .i64 m1 else if i = 2 then .int .i64 n else if i = 3 then .int .i64 d else if i = 4 then .int .i64 h4 else if i = 5 then .int .i64 h5 else if i = 6 then .int .i64 h6 else if i = 7 then v7 else v8
/-- A PAGE LIES AT BLOCK p: its head, and its groups, packed. -/
def PageAt (w : World) (p m0 m1 n d : Nat) (h4 h5 h6 : Int) (ks vs : List (Int × Int × List Int)) : Prop :=
  ∃ g1 g2, w.rowIs p 78 9 (pgc m0 m1 n d h4 h5 h6 (.slice (some ⟨g1, 0, none⟩) d d) (.slice (some ⟨g2, 0, none⟩) n n)) ∧ Pks w g1 m0 ks ∧ Pks w g2 m1 vs ∧ Pg.Page [(m0 : Int), m1, n, d, h4, h5, h6] ks vs
theorem PageAt.keep {w w' : World} {p m0 m1 n d : Nat} {h4 h5 h6 : Int} {ks vs : List (Int × Int × List Int)} (h : PageAt w p m0 m1 n d h4 h5 h6 ks vs) (hb : Below w.heap.size w w') : PageAt w' p m0 m1 n d h4 h5 h6 ks vs := by
  obtain ⟨g1, g2, hr, hk, hv, hp⟩ := h
  exact ⟨g1, g2, row_keep hr hb, hk.keep hb, hv.keep hb, hp⟩
theorem PageAt.lt {w : World} {p m0 m1 n d : Nat} {h4 h5 h6 : Int} {ks vs : List (Int × Int × List Int)} (h : PageAt w p m0 m1 n d h4 h5 h6 ks vs) : p < w.heap.size := by
  obtain ⟨g1, g2, hr, _⟩ := h
  exact hr.lt
end Go.Proofs.Ytgpjmbhcfjafmaa
