/- Rows of structs that a call itself makes and fills; packed groups and pages in memory (layer 8, the program's own). -/
import Derived.Test.YtpifemahakbegaaPgQ
import Derived.Test.YtpifemahakbegaaGpOf
import Derived.Test.YtpifemahakbegaaSlOpens
namespace Go.Proofs.Ytpifemahakbegaa
set_option linter.unusedVariables false
open Go.RowKit

theorem run_make_rows {P : Program} (t e : TypeId) (z : Value) (zs : Array Value) (m bytes : Nat) (hzs : z.cells = zs) (ht : P.underlying t = some (.slice e)) (hinfo : (P.info? e).map (fun i => (i.zero, i.size, i.bytes)) = some (some z, m, bytes)) (kl kc : IntKind) (n : Nat) (hb : bytes * n ≤ 281474976710656) (h63 : n ≤ 9223372036854775807) :
    ∀ w : World, (Instr.makeSlice t (.int kl (n : Int)) (.int kc (n : Int))).run P w = .ok (.slice (some ⟨w.heap.size, 0, none⟩) n n) (w.alloc (.cells (madeCells zs (n * m)) e)) := by
  subst hzs
  obtain ⟨i, hi, h1, h2, h3⟩ := info_parts hinfo
  intro w
  have hb' : (i.bytes : Int) * (n : Int) ≤ 281474976710656 := by
    rw [h3]
    have h : ((bytes * n : Nat) : Int) ≤ 281474976710656 := by omega
    rwa [Int.natCast_mul] at h
  have hr := run_make (P := P) w t e i z ht hi h1 kl kc n n (by omega) (Int.le_refl _) hb' (by omega)
  simp only [Int.toNat_natCast] at hr
  rw [hr, h2]

theorem row_made (w : World) (zs : Array Value) (N : Nat) (t : TypeId) : (w.alloc (.cells (madeCells zs N) t)).rowIs w.heap.size t N (fun j => zs[j % zs.size]!) :=
  ⟨_, heap_alloc_new _ _, size_madeCells _ _, fun i hi => by simp [madeCells, hi]⟩

theorem row_keep {w w' : World} {g : Nat} {t : TypeId} {N : Nat} {f : Nat → Value} (h : w.rowIs g t N f) (hb : Below w.heap.size w w') : w'.rowIs g t N f := World.rowIs.of_block h (hb.block g h.lt)

/-- A ROW OF GROUPS AT BLOCK g, the first k of them laid: their codes lie behind the row. -/
def GRow (w : World) (g : Nat) (t : TypeId) (N : Nat) (l : List (Int × Int × List Int)) (k : Nat) : Prop :=
  ∃ f, w.rowIs g t N f ∧ ∀ i, i < k → ∃ a c, f (i * 3) = .int .i32 (Pg.gz (Pg.nth l i)) ∧ f (i * 3 + 1) = .int .u32 (Pg.gs (Pg.nth l i)) ∧ f (i * 3 + 2) = .slice a (Pg.gc (Pg.nth l i)).length c ∧ Lst .i64 w a (Pg.gc (Pg.nth l i)) ∧ ∀ x, a = some x → g < x.block
theorem GRow.made (w : World) (zs : Array Value) (N : Nat) (t : TypeId) (l : List (Int × Int × List Int)) : GRow (w.alloc (.cells (madeCells zs N) t)) w.heap.size t N l 0 := ⟨_, row_made w zs N t, fun i hi => by omega⟩
theorem GRow.keep {w w' : World} {g : Nat} {t : TypeId} {N : Nat} {l : List (Int × Int × List Int)} {k : Nat} (h : GRow w g t N l k) (hb : Below w.heap.size w w') : GRow w' g t N l k := by
  obtain ⟨f, hr, hc⟩ := h
  refine ⟨f, row_keep hr hb, fun i hi => ?_⟩
  obtain ⟨a, c, h0, h1, h2, h3, h4⟩ := hc i hi
  exact ⟨a, c, h0, h1, h2, h3.keep hb, h4⟩
theorem GRow.lt {w : World} {g : Nat} {t : TypeId} {N : Nat} {l : List (Int × Int × List Int)} {k : Nat} (h : GRow w g t N l k) : g < w.heap.size := by
  obtain ⟨f, hr, _⟩ := h
  exact hr.lt
theorem GRow.room {w : World} {g : Nat} {t : TypeId} {N : Nat} {l : List (Int × Int × List Int)} {k : Nat} (h : GRow w g t N l k) : ∃ f, w.rowIs g t N f := by
  obtain ⟨f, hr, _⟩ := h
  exact ⟨f, hr⟩
theorem GRow.step {w : World} {g : Nat} {t : TypeId} {N : Nat} {l : List (Int × Int × List Int)} {k : Nat} (h : GRow w g t N l k) {a : Option Addr} {c n : Nat} {z sc : Int} (ez : Pg.gz (Pg.nth l k) = z) (es : Pg.gs (Pg.nth l k) = sc) (en : (Pg.gc (Pg.nth l k)).length = n) (hl : Lst .i64 w a (Pg.gc (Pg.nth l k))) (hx : ∀ x, a = some x → g < x.block) :
    GRow (((w.setCell ⟨g, k * 3, none⟩ (.int .i32 z)).setCell ⟨g, k * 3 + 1, none⟩ (.int .u32 sc)).setCell ⟨g, k * 3 + 2, none⟩ (.slice a n c)) g t N l (k + 1) := by
  obtain ⟨f, hr, hc⟩ := h
  have other : ∀ (b : Option Addr) (m : List Int), Lst .i64 w b m → (∀ x, b = some x → g < x.block) → Lst .i64 (((w.setCell ⟨g, k * 3, none⟩ (.int .i32 z)).setCell ⟨g, k * 3 + 1, none⟩ (.int .u32 sc)).setCell ⟨g, k * 3 + 2, none⟩ (.slice a n c)) b m := fun b m hb hg =>
    ((hb.set_otherP (p := ⟨g, k * 3, none⟩) (fun x e => by have := hg x e; show ¬ x.block = g; omega) _).set_otherP (p := ⟨g, k * 3 + 1, none⟩) (fun x e => by have := hg x e; show ¬ x.block = g; omega) _).set_otherP (p := ⟨g, k * 3 + 2, none⟩) (fun x e => by have := hg x e; show ¬ x.block = g; omega) _
  refine ⟨_, ((hr.set (k * 3) _).set (k * 3 + 1) _).set (k * 3 + 2) _, fun i hi => ?_⟩
  by_cases e : i = k
  · subst e
    refine ⟨a, c, ?_, ?_, ?_, other a _ hl hx, hx⟩
    · rw [if_neg (by omega), if_neg (by omega), if_pos rfl, ez]
    · rw [if_neg (by omega), if_pos rfl, es]
    · rw [if_pos rfl, en]
  · obtain ⟨a', c', h0, h1, h2, h3, h4⟩ := hc i (by omega)
    refine ⟨a', c', ?_, ?_, ?_, other a' _ h3 h4, h4⟩
    · rw [if_neg (by omega), if_neg (by omega), if_neg (by omega), h0]
    · rw [if_neg (by omega), if_neg (by omega), if_neg (by omega), h1]
    · rw [if_neg (by omega), if_neg (by omega), if_neg (by omega), h2]
theorem GRow.gps {w : World} {g : Nat} {t : TypeId} {N : Nat} {l : List (Int × Int × List Int)} (h : GRow w g t N l l.length) (hN : N = l.length * 3) : Gps w (some ⟨g, 0, none⟩) l := by
  obtain ⟨f, hr, hc⟩ := h
  intro i hi
  obtain ⟨a, c, h0, h1, h2, h3, _⟩ := hc i hi
  refine ⟨g, 0, a, c, rfl, ?_, ?_, ?_, h3⟩
  · rw [Nat.zero_add, hr.cell (by omega), h0]
  · rw [Nat.zero_add, hr.cell (by omega), h1]
  · rw [Nat.zero_add, hr.cell (by omega), h2]

/-- A PACKED GROUP: place i of the row at block g; its words, of b bits. -/
def PkAt (w : World) (g i b : Nat) (x : Int × Int × List Int) (a : Option Addr) (c : Nat) : Prop :=
  w.cell? ⟨g, i * 4, none⟩ = some (.int .i32 (Pg.gz x)) ∧ w.cell? ⟨g, i * 4 + 1, none⟩ = some (.int .u32 (Pg.gs x)) ∧ w.cell? ⟨g, i * 4 + 2, none⟩ = some (.slice none 0 0) ∧ w.cell? ⟨g, i * 4 + 3, none⟩ = some (.slice a (Pk.size b (Pg.gc x).length) c) ∧ Lst .u64 w a (Pk.pack b (Pg.gc x))
/-- THE ROW AT BLOCK g READS AS THE GROUPS l, packed. -/
def Pks (w : World) (g b : Nat) (l : List (Int × Int × List Int)) : Prop := ∀ i, i < l.length → ∃ a c, PkAt w g i b (Pg.nth l i) a c
theorem PkAt.keep {w w' : World} {g i b : Nat} {x : Int × Int × List Int} {a : Option Addr} {c : Nat} (h : PkAt w g i b x a c) (hb : Below w.heap.size w w') : PkAt w' g i b x a c := by
  obtain ⟨h0, h1, h2, h3, h4⟩ := h
  refine ⟨?_, ?_, ?_, ?_, h4.keep hb⟩
  · rw [hb.cell (p := ⟨g, i * 4, none⟩) (World.block_lt_of_cell? w _ h0)]; exact h0
  · rw [hb.cell (p := ⟨g, i * 4 + 1, none⟩) (World.block_lt_of_cell? w _ h1)]; exact h1
  · rw [hb.cell (p := ⟨g, i * 4 + 2, none⟩) (World.block_lt_of_cell? w _ h2)]; exact h2
  · rw [hb.cell (p := ⟨g, i * 4 + 3, none⟩) (World.block_lt_of_cell? w _ h3)]; exact h3
theorem Pks.keep {w w' : World} {g b : Nat} {l : List (Int × Int × List Int)} (h : Pks w g b l) (hb : Below w.heap.size w w') : Pks w' g b l := fun i hi => by
  obtain ⟨a, c, h'⟩ := h i hi
  exact ⟨a, c, h'.keep hb⟩
/-- A row of packed groups, the first k laid. -/
def PRow (w : World) (g : Nat) (t : TypeId) (N b : Nat) (l : List (Int × Int × List Int)) (k : Nat) : Prop :=
  ∃ f, w.rowIs g t N f ∧ ∀ i, i < k → ∃ a c, f (i * 4) = .int .i32 (Pg.gz (Pg.nth l i)) ∧ f (i * 4 + 1) = .int .u32 (Pg.gs (Pg.nth l i)) ∧ f (i * 4 + 2) = .slice none 0 0 ∧ f (i * 4 + 3) = .slice a (Pk.size b (Pg.gc (Pg.nth l i)).length) c ∧ Lst .u64 w a (Pk.pack b (Pg.gc (Pg.nth l i))) ∧ ∀ x, a = some x → g < x.block
theorem PRow.made (w : World) (zs : Array Value) (N b : Nat) (t : TypeId) (l : List (Int × Int × List Int)) : PRow (w.alloc (.cells (madeCells zs N) t)) w.heap.size t N b l 0 := ⟨_, row_made w zs N t, fun i hi => by omega⟩
theorem PRow.keep {w w' : World} {g : Nat} {t : TypeId} {N b : Nat} {l : List (Int × Int × List Int)} {k : Nat} (h : PRow w g t N b l k) (hb : Below w.heap.size w w') : PRow w' g t N b l k := by
  obtain ⟨f, hr, hc⟩ := h
  refine ⟨f, row_keep hr hb, fun i hi => ?_⟩
  obtain ⟨a, c, h0, h1, h2, h3, h4, h5⟩ := hc i hi
  exact ⟨a, c, h0, h1, h2, h3, h4.keep hb, h5⟩
theorem PRow.lt {w : World} {g : Nat} {t : TypeId} {N b : Nat} {l : List (Int × Int × List Int)} {k : Nat} (h : PRow w g t N b l k) : g < w.heap.size := by
  obtain ⟨f, hr, _⟩ := h
  exact hr.lt
theorem PRow.room {w : World} {g : Nat} {t : TypeId} {N b : Nat} {l : List (Int × Int × List Int)} {k : Nat} (h : PRow w g t N b l k) : ∃ f, w.rowIs g t N f := by
  obtain ⟨f, hr, _⟩ := h
  exact ⟨f, hr⟩
theorem PRow.step {w : World} {g : Nat} {t : TypeId} {N b : Nat} {l : List (Int × Int × List Int)} {k : Nat} (h : PRow w g t N b l k) {a : Option Addr} {c n : Nat} {z sc : Int} (ez : Pg.gz (Pg.nth l k) = z) (es : Pg.gs (Pg.nth l k) = sc) (en : Pk.size b (Pg.gc (Pg.nth l k)).length = n) (hl : Lst .u64 w a (Pk.pack b (Pg.gc (Pg.nth l k)))) (hx : ∀ x, a = some x → g < x.block) :
    PRow ((((w.setCell ⟨g, k * 4, none⟩ (.int .i32 z)).setCell ⟨g, k * 4 + 1, none⟩ (.int .u32 sc)).setCell ⟨g, k * 4 + 2, none⟩ (.slice none 0 0)).setCell ⟨g, k * 4 + 3, none⟩ (.slice a n c)) g t N b l (k + 1) := by
  obtain ⟨f, hr, hc⟩ := h
  have other : ∀ (y : Option Addr) (m : List Int), Lst .u64 w y m → (∀ x, y = some x → g < x.block) → Lst .u64 ((((w.setCell ⟨g, k * 4, none⟩ (.int .i32 z)).setCell ⟨g, k * 4 + 1, none⟩ (.int .u32 sc)).setCell ⟨g, k * 4 + 2, none⟩ (.slice none 0 0)).setCell ⟨g, k * 4 + 3, none⟩ (.slice a n c)) y m := fun y m hb hg =>
    (((hb.set_otherP (p := ⟨g, k * 4, none⟩) (fun x e => by have := hg x e; show ¬ x.block = g; omega) _).set_otherP (p := ⟨g, k * 4 + 1, none⟩) (fun x e => by have := hg x e; show ¬ x.block = g; omega) _).set_otherP (p := ⟨g, k * 4 + 2, none⟩) (fun x e => by have := hg x e; show ¬ x.block = g; omega) _).set_otherP (p := ⟨g, k * 4 + 3, none⟩) (fun x e => by have := hg x e; show ¬ x.block = g; omega) _
  refine ⟨_, (((hr.set (k * 4) _).set (k * 4 + 1) _).set (k * 4 + 2) _).set (k * 4 + 3) _, fun i hi => ?_⟩
  by_cases e : i = k
  · subst e
    refine ⟨a, c, ?_, ?_, ?_, ?_, other a _ hl hx, hx⟩
    · rw [if_neg (by omega), if_neg (by omega), if_neg (by omega), if_pos rfl, ez]
    · rw [if_neg (by omega), if_neg (by omega), if_pos rfl, es]
    · rw [if_neg (by omega), if_pos rfl]
    · rw [if_pos rfl, en]
  · obtain ⟨a', c', h0, h1, h2, h3, h4, h5⟩ := hc i (by omega)
    refine ⟨a', c', ?_, ?_, ?_, ?_, other a' _ h4 h5, h5⟩
    · rw [if_neg (by omega), if_neg (by omega), if_neg (by omega), if_neg (by omega), h0]
    · rw [if_neg (by omega), if_neg (by omega), if_neg (by omega), if_neg (by omega), h1]
    · rw [if_neg (by omega), if_neg (by omega), if_neg (by omega), if_neg (by omega), h2]
    · rw [if_neg (by omega), if_neg (by omega), if_neg (by omega), if_neg (by omega), h3]
theorem PRow.pks {w : World} {g : Nat} {t : TypeId} {N b : Nat} {l : List (Int × Int × List Int)} (h : PRow w g t N b l l.length) (hN : N = l.length * 4) : Pks w g b l := by
  obtain ⟨f, hr, hc⟩ := h
  intro i hi
  obtain ⟨a, c, h0, h1, h2, h3, h4, _⟩ := hc i hi
  refine ⟨a, c, ?_, ?_, ?_, ?_, h4⟩
  · rw [hr.cell (by omega), h0]
  · rw [hr.cell (by omega), h1]
  · rw [hr.cell (by omega), h2]
  · rw [hr.cell (by omega), h3]

/-- THE NINE CELLS OF A PAGE. -/
def pgc (m0 m1 n d : Nat) (h4 h5 h6 : Int) (v7 v8 : Value) (i : Nat) : Value :=
  if i = 0 then .int .i64 m0 else if i = 1 then .int .i64 m1 else if i = 2 then .int .i64 n else if i = 3 then .int .i64 d else if i = 4 then .int .i64 h4 else if i = 5 then .int .i64 h5 else if i = 6 then .int .i64 h6 else if i = 7 then v7 else v8
/-- A PAGE LIES AT BLOCK p: its head, and its groups, packed. -/
def PageAt (w : World) (p m0 m1 n d : Nat) (h4 h5 h6 : Int) (ks vs : List (Int × Int × List Int)) : Prop :=
  ∃ g1 g2, w.rowIs p 91 9 (pgc m0 m1 n d h4 h5 h6 (.slice (some ⟨g1, 0, none⟩) d d) (.slice (some ⟨g2, 0, none⟩) n n)) ∧ Pks w g1 m0 ks ∧ Pks w g2 m1 vs ∧ Pg.Page [(m0 : Int), m1, n, d, h4, h5, h6] ks vs
theorem PageAt.keep {w w' : World} {p m0 m1 n d : Nat} {h4 h5 h6 : Int} {ks vs : List (Int × Int × List Int)} (h : PageAt w p m0 m1 n d h4 h5 h6 ks vs) (hb : Below w.heap.size w w') : PageAt w' p m0 m1 n d h4 h5 h6 ks vs := by
  obtain ⟨g1, g2, hr, hk, hv, hp⟩ := h
  exact ⟨g1, g2, row_keep hr hb, hk.keep hb, hv.keep hb, hp⟩
theorem PageAt.lt {w : World} {p m0 m1 n d : Nat} {h4 h5 h6 : Int} {ks vs : List (Int × Int × List Int)} (h : PageAt w p m0 m1 n d h4 h5 h6 ks vs) : p < w.heap.size := by
  obtain ⟨g1, g2, hr, _⟩ := h
  exact hr.lt
end Go.Proofs.Ytpifemahakbegaa
/- Contracts of package page: which heads are right, how many groups and lists there are, are groups right? -/
namespace Go.Proofs.Ytpifemahakbegaa
set_option linter.unusedVariables false
open Go.RowKit
attribute [local go_sem ↓] Go.wp_at_zero Go.wp_at_succ

theorem within_any (n l m : Int) (q : Bool) (hq : (decide (l ≤ n) && decide (n ≤ m)) = q) (w : World) :
    Calls Try.prog 55 #[.int .i64 n, .int .i64 l, .int .i64 m] w fun e w' => e = .returned (.bool q) ∧ w' = w := by
  obtain ⟨p, ep⟩ : ∃ p, decide (l ≤ n) = p := ⟨_, rfl⟩
  rw [ep] at hq
  have HQ : Hid ((p && decide (n ≤ m)) = q) := hq
  clear hq
  cases p
  · go_enter Try.func55, Try.ntmps55
    go_wp2
    go_ret
    exact ⟨ret_bool (by rw [← HQ.out]; simp), rfl⟩
  · go_enter Try.func55, Try.ntmps55
    go_wp2
    go_ret
    exact ⟨ret_bool (by rw [← HQ.out]; simp), rfl⟩

set_option maxHeartbeats 1600000 in
theorem rightP_any (h0 h1 h2 h3 h4 h5 h6 : Int) (q : Bool) (hq : Pg.rightH [h0, h1, h2, h3, h4, h5, h6] = q) (w : World) :
    Calls Try.prog 46 #[.agg #[.int .i64 h0, .int .i64 h1, .int .i64 h2, .int .i64 h3, .int .i64 h4, .int .i64 h5, .int .i64 h6]] w fun e w' => e = .returned (.bool q) ∧ Below w.heap.size w w' := by
  rw [Pg.rightH_eq] at hq
  obtain ⟨p0, e0⟩ : ∃ p, Gp.okB h0 = p := ⟨_, rfl⟩
  obtain ⟨p1, e1⟩ : ∃ p, Gp.okB h1 = p := ⟨_, rfl⟩
  obtain ⟨p2, e2⟩ : ∃ p, (decide (1 ≤ h2) && decide (h2 ≤ 16)) = p := ⟨_, rfl⟩
  obtain ⟨p3, e3⟩ : ∃ p, (decide (1 ≤ h3) && decide (h3 ≤ 16)) = p := ⟨_, rfl⟩
  obtain ⟨p4, e4⟩ : ∃ p, (decide (0 ≤ h4) && decide (h4 ≤ 3)) = p := ⟨_, rfl⟩
  obtain ⟨p5, e5⟩ : ∃ p, (decide (0 ≤ h5) && decide (h5 ≤ 3)) = p := ⟨_, rfl⟩
  obtain ⟨p6, e6⟩ : ∃ p, (decide (0 ≤ h6) && decide (h6 ≤ 1023)) = p := ⟨_, rfl⟩
  have HQ : Hid ((p0 && p1 && p2 && p3 && p4 && p5 && p6) = q) := by
    show _ = _
    rw [← hq, ← e0, ← e1, ← e2, ← e3, ← e4, ← e5, ← e6]
    simp only [Bool.and_assoc]
  have E0 : Hid (Gp.okB h0 = p0) := e0
  have E1 : Hid (Gp.okB h1 = p1) := e1
  have E2 : Hid ((decide (1 ≤ h2) && decide (h2 ≤ 16)) = p2) := e2
  have E3 : Hid ((decide (1 ≤ h3) && decide (h3 ≤ 16)) = p3) := e3
  have E4 : Hid ((decide (0 ≤ h4) && decide (h4 ≤ 3)) = p4) := e4
  have E5 : Hid ((decide (0 ≤ h5) && decide (h5 ≤ 3)) = p5) := e5
  have E6 : Hid ((decide (0 ≤ h6) && decide (h6 ≤ 1023)) = p6) := e6
  clear e0 e1 e2 e3 e4 e5 e6 hq
  cases p0
  · go_enter Try.func46, Try.ntmps46
    go_wp2_with (first
      | (go_at_call 54; (first | (with_reducible refine (bitsB_any h0 _ E0.out _).mono ?_) | (with_reducible refine (bitsB_any h1 _ E1.out _).mono ?_)); rintro r w' ⟨rfl, hw⟩; cases hw.symm; clear hw)
      | (go_at_call 55; (first | (with_reducible refine (within_any h2 1 16 _ E2.out _).mono ?_) | (with_reducible refine (within_any h3 1 16 _ E3.out _).mono ?_) | (with_reducible refine (within_any h4 0 3 _ E4.out _).mono ?_) | (with_reducible refine (within_any h5 0 3 _ E5.out _).mono ?_) | (with_reducible refine (within_any h6 0 1023 _ E6.out _).mono ?_)); rintro r w' ⟨rfl, hw⟩; cases hw.symm; clear hw))
    go_ret
    exact ⟨ret_bool (by rw [← HQ.out]; simp), box_below _ _⟩
  cases p1
  · go_enter Try.func46, Try.ntmps46
    go_wp2_with (first
      | (go_at_call 54; (first | (with_reducible refine (bitsB_any h0 _ E0.out _).mono ?_) | (with_reducible refine (bitsB_any h1 _ E1.out _).mono ?_)); rintro r w' ⟨rfl, hw⟩; cases hw.symm; clear hw)
      | (go_at_call 55; (first | (with_reducible refine (within_any h2 1 16 _ E2.out _).mono ?_) | (with_reducible refine (within_any h3 1 16 _ E3.out _).mono ?_) | (with_reducible refine (within_any h4 0 3 _ E4.out _).mono ?_) | (with_reducible refine (within_any h5 0 3 _ E5.out _).mono ?_) | (with_reducible refine (within_any h6 0 1023 _ E6.out _).mono ?_)); rintro r w' ⟨rfl, hw⟩; cases hw.symm; clear hw))
    go_ret
    exact ⟨ret_bool (by rw [← HQ.out]; simp), box_below _ _⟩
  cases p2
  · go_enter Try.func46, Try.ntmps46
    go_wp2_with (first
      | (go_at_call 54; (first | (with_reducible refine (bitsB_any h0 _ E0.out _).mono ?_) | (with_reducible refine (bitsB_any h1 _ E1.out _).mono ?_)); rintro r w' ⟨rfl, hw⟩; cases hw.symm; clear hw)
      | (go_at_call 55; (first | (with_reducible refine (within_any h2 1 16 _ E2.out _).mono ?_) | (with_reducible refine (within_any h3 1 16 _ E3.out _).mono ?_) | (with_reducible refine (within_any h4 0 3 _ E4.out _).mono ?_) | (with_reducible refine (within_any h5 0 3 _ E5.out _).mono ?_) | (with_reducible refine (within_any h6 0 1023 _ E6.out _).mono ?_)); rintro r w' ⟨rfl, hw⟩; cases hw.symm; clear hw))
    go_ret
    exact ⟨ret_bool (by rw [← HQ.out]; simp), box_below _ _⟩
  cases p3
  · go_enter Try.func46, Try.ntmps46
    go_wp2_with (first
      | (go_at_call 54; (first | (with_reducible refine (bitsB_any h0 _ E0.out _).mono ?_) | (with_reducible refine (bitsB_any h1 _ E1.out _).mono ?_)); rintro r w' ⟨rfl, hw⟩; cases hw.symm; clear hw)
      | (go_at_call 55; (first | (with_reducible refine (within_any h2 1 16 _ E2.out _).mono ?_) | (with_reducible refine (within_any h3 1 16 _ E3.out _).mono ?_) | (with_reducible refine (within_any h4 0 3 _ E4.out _).mono ?_) | (with_reducible refine (within_any h5 0 3 _ E5.out _).mono ?_) | (with_reducible refine (within_any h6 0 1023 _ E6.out _).mono ?_)); rintro r w' ⟨rfl, hw⟩; cases hw.symm; clear hw))
    go_ret
    exact ⟨ret_bool (by rw [← HQ.out]; simp), box_below _ _⟩
  cases p4
  · go_enter Try.func46, Try.ntmps46
    go_wp2_with (first
      | (go_at_call 54; (first | (with_reducible refine (bitsB_any h0 _ E0.out _).mono ?_) | (with_reducible refine (bitsB_any h1 _ E1.out _).mono ?_)); rintro r w' ⟨rfl, hw⟩; cases hw.symm; clear hw)
      | (go_at_call 55; (first | (with_reducible refine (within_any h2 1 16 _ E2.out _).mono ?_) | (with_reducible refine (within_any h3 1 16 _ E3.out _).mono ?_) | (with_reducible refine (within_any h4 0 3 _ E4.out _).mono ?_) | (with_reducible refine (within_any h5 0 3 _ E5.out _).mono ?_) | (with_reducible refine (within_any h6 0 1023 _ E6.out _).mono ?_)); rintro r w' ⟨rfl, hw⟩; cases hw.symm; clear hw))
    go_ret
    exact ⟨ret_bool (by rw [← HQ.out]; simp), box_below _ _⟩
  cases p5
  · go_enter Try.func46, Try.ntmps46
    go_wp2_with (first
      | (go_at_call 54; (first | (with_reducible refine (bitsB_any h0 _ E0.out _).mono ?_) | (with_reducible refine (bitsB_any h1 _ E1.out _).mono ?_)); rintro r w' ⟨rfl, hw⟩; cases hw.symm; clear hw)
      | (go_at_call 55; (first | (with_reducible refine (within_any h2 1 16 _ E2.out _).mono ?_) | (with_reducible refine (within_any h3 1 16 _ E3.out _).mono ?_) | (with_reducible refine (within_any h4 0 3 _ E4.out _).mono ?_) | (with_reducible refine (within_any h5 0 3 _ E5.out _).mono ?_) | (with_reducible refine (within_any h6 0 1023 _ E6.out _).mono ?_)); rintro r w' ⟨rfl, hw⟩; cases hw.symm; clear hw))
    go_ret
    exact ⟨ret_bool (by rw [← HQ.out]; simp), box_below _ _⟩
  cases p6
  · go_enter Try.func46, Try.ntmps46
    go_wp2_with (first
      | (go_at_call 54; (first | (with_reducible refine (bitsB_any h0 _ E0.out _).mono ?_) | (with_reducible refine (bitsB_any h1 _ E1.out _).mono ?_)); rintro r w' ⟨rfl, hw⟩; cases hw.symm; clear hw)
      | (go_at_call 55; (first | (with_reducible refine (within_any h2 1 16 _ E2.out _).mono ?_) | (with_reducible refine (within_any h3 1 16 _ E3.out _).mono ?_) | (with_reducible refine (within_any h4 0 3 _ E4.out _).mono ?_) | (with_reducible refine (within_any h5 0 3 _ E5.out _).mono ?_) | (with_reducible refine (within_any h6 0 1023 _ E6.out _).mono ?_)); rintro r w' ⟨rfl, hw⟩; cases hw.symm; clear hw))
    go_ret
    exact ⟨ret_bool (by rw [← HQ.out]; simp), box_below _ _⟩
  go_enter Try.func46, Try.ntmps46
  go_wp2_with (first
    | (go_at_call 54; (first | (with_reducible refine (bitsB_any h0 _ E0.out _).mono ?_) | (with_reducible refine (bitsB_any h1 _ E1.out _).mono ?_)); rintro r w' ⟨rfl, hw⟩; cases hw.symm; clear hw)
    | (go_at_call 55; (first | (with_reducible refine (within_any h2 1 16 _ E2.out _).mono ?_) | (with_reducible refine (within_any h3 1 16 _ E3.out _).mono ?_) | (with_reducible refine (within_any h4 0 3 _ E4.out _).mono ?_) | (with_reducible refine (within_any h5 0 3 _ E5.out _).mono ?_) | (with_reducible refine (within_any h6 0 1023 _ E6.out _).mono ?_)); rintro r w' ⟨rfl, hw⟩; cases hw.symm; clear hw))
  go_ret
  exact ⟨ret_bool (by rw [← HQ.out]; simp), box_below _ _⟩

theorem groupsOf_any (a : Option Addr) (c : Nat) (l : List (Int × Int × List Int)) (n each : Int) (q : Bool) (w : World) (ha : Gps w a l) (hl : l.length ≤ maxLen) (hq : Pg.shapeB l n each = q) :
    Calls Try.prog 56 #[.slice a l.length c, .int .i64 n, .int .i64 each] w fun e w' => e = .returned (.bool q) ∧ Below w.heap.size w w' := by
  unfold maxLen at hl
  have HA : Hid (Gps w a l) := ha
  have HQ : Hid (Pg.shapeB l n each = q) := hq
  clear ha hq
  go_enter Try.func56, Try.ntmps56
  go_wp2
  go_loopw [11] (fun i wr => ∃ k : Nat, k ≤ l.length ∧ i = .int .i64 k ∧ Below w.heap.size w wr ∧ ∀ j, j < k → ((Pg.gc (Pg.nth l j)).length : Int) = each) (fun i _ => l.length - (intOf i).toNat)
  case atStart => exact ⟨0, Nat.zero_le _, rfl, Below.refl _ _, fun j hj => by omega⟩
  case round =>
    obtain ⟨k, hk, rfl, hbel, hall⟩ := hrel
    have HL : Hid (∀ j, j < k → ((Pg.gc (Pg.nth l j)).length : Int) = each) := hall
    have HB : Hid (Below w.heap.size w wr) := hbel
    have hsz := hbel.size
    clear hall hbel
    by_cases hlt : k < l.length
    · obtain ⟨b, o, rfl, hall⟩ := HA.out.get hlt
      obtain ⟨a', c', hg⟩ := hall k hlt
      obtain ⟨d0, d1, d2, d3⟩ := hg.keep HB.out
      have hbl := hg.lt
      clear hall d3 hg
      by_cases hz : ((Pg.gc (Pg.nth l k)).length : Int) = each
      · have HZ : Hid (((Pg.gc (Pg.nth l k)).length : Int) = each) := hz
        have g : (((Pg.gc (Pg.nth l k)).length : Int) != each) = false := by rw [hz]; simp
        clear hz
        go_wp2
        go_roundw
        case rel =>
          refine ⟨k + 1, by omega, by go_num, HB.out.alloc (by omega) _, fun j hj => ?_⟩
          by_cases e : j = k
          · subst e; exact HZ.out
          · exact HL.out j (by omega)
        case measure => simp [intOf]; omega
      · have g : (((Pg.gc (Pg.nth l k)).length : Int) != each) = true := by simp [hz]
        go_wp2
        go_ret
        refine ⟨ret_bool ?_, HB.out.alloc (by omega) _⟩
        rw [← HQ.out]
        unfold Pg.shapeB
        exact (decide_eq_false (fun e => hz (e.1 k hlt))).symm
    · go_wp2
      go_ret
      refine ⟨ret_bool ?_, HB.out⟩
      rw [← HQ.out]
      unfold Pg.shapeB
      rw [Bool.eq_iff_iff]
      simp only [beq_iff_eq, decide_eq_true_eq]
      exact ⟨fun e => ⟨fun i hi => HL.out i (by omega), e⟩, fun e => e.2⟩

theorem listsOf_any (a : Option Addr) (c : Nat) (ls : List (List Int)) (n d : Int) (q : Bool) (w : World) (ha : Tbl w a ls) (hl : ls.length ≤ maxLen) (hq : Pg.shapedB ls n d = q) :
    Calls Try.prog 47 #[.slice a ls.length c, .int .i64 n, .int .i64 d] w fun e w' => e = .returned (.bool q) ∧ w' = w := by
  unfold maxLen at hl
  have HA : Hid (Tbl w a ls) := ha
  have HQ : Hid (Pg.shapedB ls n d = q) := hq
  clear ha hq
  go_enter Try.func47, Try.ntmps47
  go_wp2
  go_loop [11] (fun i => ∃ k : Nat, k ≤ ls.length ∧ i = .int .i64 k ∧ ∀ j, j < k → ((Tb.row ls j).length : Int) = d) (fun i => ls.length - (intOf i).toNat)
  case atStart => exact ⟨0, Nat.zero_le _, rfl, fun j hj => by omega⟩
  case round =>
    obtain ⟨k, hk, rfl, hall⟩ := hrel
    have HL : Hid (∀ j, j < k → ((Tb.row ls j).length : Int) = d) := hall
    clear hall
    by_cases hlt : k < ls.length
    · obtain ⟨b, o, rfl, hall⟩ := HA.out.get hlt
      obtain ⟨A, C, d0, _, _⟩ := hall k hlt
      clear hall
      by_cases hz : ((Tb.row ls k).length : Int) = d
      · have HZ : Hid (((Tb.row ls k).length : Int) = d) := hz
        have g : (((Tb.row ls k).length : Int) != d) = false := by rw [hz]; simp
        clear hz
        go_wp2
        go_round
        case rel =>
          refine ⟨k + 1, by omega, by go_num, fun j hj => ?_⟩
          by_cases e : j = k
          · subst e; exact HZ.out
          · exact HL.out j (by omega)
        case measure => simp [intOf]; omega
      · have g : (((Tb.row ls k).length : Int) != d) = true := by simp [hz]
        go_wp2
        go_ret
        refine ⟨ret_bool ?_, rfl⟩
        rw [← HQ.out]
        unfold Pg.shapedB
        exact (decide_eq_false (fun e => hz (e.1 k hlt))).symm
    · go_wp2
      go_ret
      refine ⟨ret_bool ?_, rfl⟩
      rw [← HQ.out]
      unfold Pg.shapedB
      rw [Bool.eq_iff_iff]
      simp only [beq_iff_eq, decide_eq_true_eq]
      exact ⟨fun e => ⟨fun i hi => HL.out i (by omega), e⟩, fun e => e.2⟩

theorem allRight_any (a : Option Addr) (c b s n : Nat) (l : List (Int × Int × List Int)) (e : Int) (w : World) (ha : Gps w a l) (hl : l.length ≤ 10000) (hst : Gp.St b s) (hn : ∀ i, i < l.length → (Pg.gc (Pg.nth l i)).length = n) (h1 : 1 ≤ n) (h2 : n ≤ 256) (hi : InG l) (he : Pg.rightsN s l l.length = e) :
    Calls Try.prog 57 #[.slice a l.length c, .int .i64 b] w fun r w' => r = .returned (.int .i64 e) ∧ Below w.heap.size w w' := by
  have HA : Hid (Gps w a l) := ha
  have HI : Hid (InG l) := hi
  have HN : Hid (∀ i, i < l.length → (Pg.gc (Pg.nth l i)).length = n) := hn
  have ST : Hid (Gp.St b s) := hst
  have HE : Hid (Pg.rightsN s l l.length = e) := he
  clear ha hi hn hst he
  go_enter Try.func57, Try.ntmps57
  go_wp2
  go_loopw [10] (fun i wr => ∃ k : Nat, k ≤ l.length ∧ i = .int .i64 k ∧ Below w.heap.size w wr ∧ Pg.rightsN (s : Int) l k = 0) (fun i _ => l.length - (intOf i).toNat)
  case atStart => exact ⟨0, Nat.zero_le _, rfl, Below.refl _ _, rfl⟩
  case round =>
    obtain ⟨k, hk, rfl, hbel, hall⟩ := hrel
    have HL : Hid (Pg.rightsN (s : Int) l k = 0) := hall
    have HB : Hid (Below w.heap.size w wr) := hbel
    have hsz := hbel.size
    clear hall hbel
    by_cases hlt : k < l.length
    · obtain ⟨b1, o1, rfl, hall⟩ := HA.out.get hlt
      obtain ⟨a', c', hg⟩ := hall k hlt
      obtain ⟨d0, d1, d2, d3⟩ := hg.keep HB.out
      have D3 : Hid (Lst .i64 wr a' (Pg.gc (Pg.nth l k))) := d3
      have hbl := hg.lt
      obtain ⟨_, _, g2, g3, _⟩ := HI.out k hlt
      obtain ⟨r, er⟩ : ∃ r, Gp.right (s : Int) (Pg.gs (Pg.nth l k)) (Pg.gc (Pg.nth l k)) = r := ⟨_, rfl⟩
      have ER : Hid (Gp.right (s : Int) (Pg.gs (Pg.nth l k)) (Pg.gc (Pg.nth l k)) = r) := er
      clear hall d3 hg er
      obtain ⟨pz, epz⟩ : ∃ p, (r != 0) = p := ⟨_, rfl⟩
      cases pz
      all_goals
        go_wp2_with (go_at_call 60; refine (right_any _ _ _ _ b s (Pg.gc (Pg.nth l k)) r _ (D3.out.keep (box_below _ _)) ST.out (by rw [HN.out k hlt]; omega) (by rw [HN.out k hlt]; omega) g2 g3 ER.out).mono ?_; rintro e v1 ⟨rfl, hb⟩; have hbc : Hid (Below w.heap.size w v1) := below_then (below_then HB.out (box_below _ _)) hb; clear hb)
      · have r0 : r = 0 := by simpa using epz
        go_roundw
        case rel =>
          refine ⟨k + 1, by omega, by go_num, hbc.out, ?_⟩
          rw [Pg.rightsN_ok HL.out, ER.out, r0]
        case measure => simp [intOf]; omega
      · have r0 : ¬ r = 0 := by simpa using epz
        go_ret
        refine ⟨ret_num ?_, hbc.out⟩
        have hk1 : Pg.rightsN (s : Int) l (k + 1) = r := by rw [Pg.rightsN_ok HL.out, ER.out]
        rw [← HE.out, Pg.rightsN_stop (k := k + 1) (by rw [hk1]; exact r0) (by omega), hk1]
    · have e : k = l.length := by omega
      subst e
      go_wp2
      go_ret
      exact ⟨ret_num (by rw [← HE.out, HL.out]), HB.out⟩
end Go.Proofs.Ytpifemahakbegaa
/- Contracts of package page: groups packed. -/
namespace Go.Proofs.Ytpifemahakbegaa
set_option linter.unusedVariables false
open Go.RowKit
attribute [local go_sem ↓] Go.wp_at_zero Go.wp_at_succ

theorem Try.infoPk : (Try.prog.info? 120).map (fun i => (i.zero, i.size, i.bytes)) = some (some (.agg #[.int .i32 0, .int .u32 0, .slice none 0 0, .slice none 0 0]), 4, 56) := by kernel_rfl
theorem Try.infoGp : (Try.prog.info? 114).map (fun i => (i.zero, i.size, i.bytes)) = some (some (.agg #[.int .i32 0, .int .u32 0, .slice none 0 0]), 3, 32) := by kernel_rfl

theorem packOne_any (z sc : Int) (a : Option Addr) (cp b : Nat) (l : List Int) (N : Nat) (w : World) (ha : Lst .i64 w a l) (hb : Pk.Ok b) (hl : l.length ≤ 256) (hc : Pk.Cds b l) (hN : Pk.size b l.length = N) :
    Calls Try.prog 61 #[.agg #[.int .i32 z, .int .u32 sc, .slice a l.length cp], .int .i64 b] w fun e w' => ∃ g, e = .returned (.agg #[.int .i32 z, .int .u32 sc, .slice none 0 0, .slice (some ⟨g, 0, none⟩) N N]) ∧ w.heap.size ≤ g ∧ Lst .u64 w' (some ⟨g, 0, none⟩) (Pk.pack b l) ∧ Below w.heap.size w w' := by
  have HA : Hid (Lst .i64 w a l) := ha
  have HB : Hid (Pk.Ok b) := hb
  have HC : Hid (Pk.Cds b l) := hc
  have HN : Hid (Pk.size b l.length = N) := hN
  clear ha hb hc hN
  go_enter Try.func61, Try.ntmps61
  go_wp2_with fail
  refine (pack_ok _ _ b l HB.out hl _ (HA.out.keep (two_boxes _ _ _)) HC.out).mono ?_
  rintro e v ⟨g, rfl, hg, hL, hbv⟩
  rw [HN.out]
  have q := boxes_cells hbv
  have c0 := q.1 0 _ rfl
  have c1 := q.1 1 _ rfl
  have y0 := q.2 0 _ rfl
  have y1 := q.2 1 _ rfl
  have y2 := q.2 2 _ rfl
  have y3 := q.2 3 _ rfl
  have r1 : v.rowIs (w.heap.size + 1) 120 4 (fun i => if i = 0 then .int .i32 0 else if i = 1 then .int .u32 0 else .slice none 0 0) := by
    have := World.rowIs_alloc (w.alloc (.cells #[.int .i32 z, .int .u32 sc, .slice a l.length cp] 114)) #[.int .i32 0, .int .u32 0, .slice none 0 0, .slice none 0 0] 120 (fun i => if i = 0 then .int .i32 0 else if i = 1 then .int .u32 0 else .slice none 0 0) (fun i hi => by match i, hi with | 0, _ => rfl | 1, _ => rfl | 2, _ => rfl | 3, _ => rfl)
    rw [show (w.alloc (.cells #[.int .i32 z, .int .u32 sc, .slice a l.length cp] 114)).heap.size = w.heap.size + 1 by simp] at this
    exact this.of_block (hbv.block _ (by simp))
  have f0 := r1.frozen 0
  have f1 := r1.frozen 1
  have f2 := r1.frozen 2
  have f3 := r1.frozen 3
  have hg2 : w.heap.size + 2 ≤ g := by simpa using hg
  have HL : Hid (Lst .u64 v (some ⟨g, 0, none⟩) (Pk.pack b l)) := hL
  have BV : Hid (Below w.heap.size w v) := below_then (two_boxes _ _ _) hbv
  clear q hg hL hbv r1
  go_wp2
  refine bodyPost_ret (v := .agg #[.int .i32 z, .int .u32 sc, .slice none 0 0, .slice (some ⟨g, 0, none⟩) N N]) (by simp [results, Try.results61, go_sem, y0, y1, y2, y3]) rfl ⟨g, rfl, by omega, ?_, ?_⟩
  · exact (((HL.out.set_otherP (fun x e => by cases e; show ¬ g = w.heap.size + 1; omega) _).set_otherP (fun x e => by cases e; show ¬ g = w.heap.size + 1; omega) _).set_otherP (fun x e => by cases e; show ¬ g = w.heap.size + 1; omega) _).set_otherP (fun x e => by cases e; show ¬ g = w.heap.size + 1; omega) _
  · exact (((BV.out.setCell (by simp) _).setCell (by simp) _).setCell (by simp) _).setCell (by simp) _

set_option maxHeartbeats 1600000 in
theorem packAll_any (a : Option Addr) (c b n : Nat) (l : List (Int × Int × List Int)) (w : World) (ha : Gps w a l) (hl : l.length ≤ 10000) (hb : Pk.Ok b) (hf : Pg.AllFit b n l) (hn : n ≤ 256) :
    Calls Try.prog 58 #[.slice a l.length c, .int .i64 b] w fun e w' => ∃ g, e = .returned (.slice (some ⟨g, 0, none⟩) l.length l.length) ∧ w.heap.size ≤ g ∧ Pks w' g b l ∧ Below w.heap.size w w' := by
  have HA : Hid (Gps w a l) := ha
  have HB : Hid (Pk.Ok b) := hb
  have HF : Hid (Pg.AllFit b n l) := hf
  clear ha hb hf
  have hmk := run_make_rows (P := Try.prog) 89 120 (.agg #[.int .i32 0, .int .u32 0, .slice none 0 0, .slice none 0 0]) #[.int .i32 0, .int .u32 0, .slice none 0 0, .slice none 0 0] 4 56 rfl Try.underlying89 Try.infoPk .i64 .i64 l.length (by omega) (by omega)
  go_enter Try.func58, Try.ntmps58
  go_wp2
  clear hmk
  go_loopw [13] (fun i wr => ∃ k : Nat, k ≤ l.length ∧ i = .int .i64 k ∧ PRow wr w.heap.size 120 (l.length * 4) b l k ∧ Below w.heap.size w wr) (fun i _ => l.length - (intOf i).toNat)
  case atStart => exact ⟨0, Nat.zero_le _, rfl, PRow.made w _ _ _ _ _, (Below.refl _ _).alloc (Nat.le_refl _) _⟩
  case round =>
    obtain ⟨k, hk, rfl, hrow, hbel⟩ := hrel
    have HR : Hid (PRow wr w.heap.size 120 (l.length * 4) b l k) := hrow
    have HW : Hid (Below w.heap.size w wr) := hbel
    have hsz := hbel.size
    have hlt0 := hrow.lt
    clear hrow hbel
    by_cases hlt : k < l.length
    · obtain ⟨b1, o1, rfl, hall⟩ := HA.out.get hlt
      obtain ⟨a', c', hg⟩ := hall k hlt
      obtain ⟨d0, d1, d2, d3⟩ := hg.keep HW.out
      have D3 : Hid (Lst .i64 wr a' (Pg.gc (Pg.nth l k))) := d3
      have hbl := hg.lt
      have F1 := HF.out k hlt
      have FL : Hid ((Pg.gc (Pg.nth l k)).length = n) := F1.1
      have FC : Hid (Pk.Cds b (Pg.gc (Pg.nth l k))) := F1.2.1
      clear hall d3 hg F1
      obtain ⟨N, eN⟩ : ∃ N, Pk.size b (Pg.gc (Pg.nth l k)).length = N := ⟨_, rfl⟩
      have EN : Hid (Pk.size b (Pg.gc (Pg.nth l k)).length = N) := eN
      clear eN
      go_wp2_with fail
      refine (packOne_any _ _ _ _ b (Pg.gc (Pg.nth l k)) N _ (D3.out.keep (box_below _ _)) HB.out (by rw [FL.out]; omega) FC.out EN.out).mono ?_
      rintro e v ⟨g, rfl, hg, hL, hbv⟩
      have BV : Hid (Below w.heap.size w v) := below_then (below_then HW.out (box_below _ _)) hbv
      have RV : Hid (PRow v w.heap.size 120 (l.length * 4) b l k) := (HR.out.keep (box_below _ _)).keep hbv
      have LV : Hid (Lst .u64 v (some ⟨g, 0, none⟩) (Pk.pack b (Pg.gc (Pg.nth l k)))) := hL
      have hg0 : w.heap.size < g := by simp at hg; omega
      obtain ⟨f, hr⟩ := RV.out.room
      have r0 := hr.cell (show k * 4 < l.length * 4 by omega)
      have r1 := hr.cell (show k * 4 + 1 < l.length * 4 by omega)
      have r2 := hr.cell (show k * 4 + 2 < l.length * 4 by omega)
      have r3 := hr.cell (show k * 4 + 3 < l.length * 4 by omega)
      have s0 := hr.frozen (k * 4)
      have s1 := hr.frozen (k * 4 + 1)
      have s2 := hr.frozen (k * 4 + 2)
      have s3 := hr.frozen (k * 4 + 3)
      clear hg hL hbv hr d0 d1 d2
      go_wp2
      go_roundw
      case rel =>
        refine ⟨k + 1, by omega, by go_num, RV.out.step rfl rfl EN.out LV.out (fun x e => by cases e; exact hg0), ?_⟩
        exact (((BV.out.setCell (by simp) _).setCell (by simp) _).setCell (by simp) _).setCell (by simp) _
      case measure => simp [intOf]; omega
    · have e : k = l.length := by omega
      subst e
      go_wp2
      go_ret
      exact ⟨w.heap.size, rfl, Nat.le_refl _, HR.out.pks rfl, HW.out⟩
end Go.Proofs.Ytpifemahakbegaa
/- Contracts of package page: New. -/
namespace Go.Proofs.Ytpifemahakbegaa
set_option linter.unusedVariables false
open Go.RowKit
attribute [local go_sem ↓] Go.wp_at_zero Go.wp_at_succ

theorem box_cells {w v : World} {X : Array Value} {s : TypeId} (hb : Below (w.alloc (.cells X s)).heap.size (w.alloc (.cells X s)) v) : ∀ i x, X[i]? = some x → v.cell? ⟨w.heap.size, i, none⟩ = some x := fun i x hx => by
  rw [hb.cell (p := ⟨w.heap.size, i, none⟩) (by simp), cell_of_row _ _ _ _ _ _ (heap_alloc_new w _)]
  exact hx
/-- The seven numbers of a head in a box. -/
def HdAt (u : World) (g : Nat) (h0 h1 h2 h3 h4 h5 h6 : Int) : Prop := u.cell? ⟨g, 0, none⟩ = some (.int .i64 h0) ∧ u.cell? ⟨g, 1, none⟩ = some (.int .i64 h1) ∧ u.cell? ⟨g, 2, none⟩ = some (.int .i64 h2) ∧ u.cell? ⟨g, 3, none⟩ = some (.int .i64 h3) ∧ u.cell? ⟨g, 4, none⟩ = some (.int .i64 h4) ∧ u.cell? ⟨g, 5, none⟩ = some (.int .i64 h5) ∧ u.cell? ⟨g, 6, none⟩ = some (.int .i64 h6)
theorem hd_box {w v : World} {h0 h1 h2 h3 h4 h5 h6 : Int} {s : TypeId} (hb : Below (w.alloc (.cells #[.int .i64 h0, .int .i64 h1, .int .i64 h2, .int .i64 h3, .int .i64 h4, .int .i64 h5, .int .i64 h6] s)).heap.size (w.alloc (.cells #[.int .i64 h0, .int .i64 h1, .int .i64 h2, .int .i64 h3, .int .i64 h4, .int .i64 h5, .int .i64 h6] s)) v) : HdAt v w.heap.size h0 h1 h2 h3 h4 h5 h6 :=
  ⟨box_cells hb 0 _ rfl, box_cells hb 1 _ rfl, box_cells hb 2 _ rfl, box_cells hb 3 _ rfl, box_cells hb 4 _ rfl, box_cells hb 5 _ rfl, box_cells hb 6 _ rfl⟩
theorem HdAt.keep {u v : World} {g : Nat} {h0 h1 h2 h3 h4 h5 h6 : Int} (h : HdAt u g h0 h1 h2 h3 h4 h5 h6) (hb : Below u.heap.size u v) : HdAt v g h0 h1 h2 h3 h4 h5 h6 := by
  obtain ⟨a, b, c, d, e, f, k⟩ := h
  have hlt := World.block_lt_of_cell? u _ a
  refine ⟨?_, ?_, ?_, ?_, ?_, ?_, ?_⟩
  · rw [hb.cell (p := ⟨g, 0, none⟩) hlt]; exact a
  · rw [hb.cell (p := ⟨g, 1, none⟩) hlt]; exact b
  · rw [hb.cell (p := ⟨g, 2, none⟩) hlt]; exact c
  · rw [hb.cell (p := ⟨g, 3, none⟩) hlt]; exact d
  · rw [hb.cell (p := ⟨g, 4, none⟩) hlt]; exact e
  · rw [hb.cell (p := ⟨g, 5, none⟩) hlt]; exact f
  · rw [hb.cell (p := ⟨g, 6, none⟩) hlt]; exact k

set_option maxRecDepth 100000 in
set_option maxHeartbeats 3200000 in
theorem newP_bad (h0 h1 h2 h3 h4 h5 h6 : Int) (a1 a2 : Option Addr) (c1 c2 : Nat) (ks vs : List (Int × Int × List Int)) (e : Int) (w : World) (ha : Gps w a1 ks) (hb : Gps w a2 vs) (lk : ks.length ≤ 10000) (lv : vs.length ≤ 10000) (ik : InG ks) (iv : InG vs) (he : Pg.newE [h0, h1, h2, h3, h4, h5, h6] ks vs = e) (hne : ¬ e = 0) :
    Calls Try.prog 48 #[.agg #[.int .i64 h0, .int .i64 h1, .int .i64 h2, .int .i64 h3, .int .i64 h4, .int .i64 h5, .int .i64 h6], .slice a1 ks.length c1, .slice a2 vs.length c2] w fun r w' => r = .returned (.tuple #[.pointer none, .int .i64 e]) ∧ Below w.heap.size w w' := by
  have HA : Hid (Gps w a1 ks) := ha
  have HB : Hid (Gps w a2 vs) := hb
  have IK : Hid (InG ks) := ik
  have IV : Hid (InG vs) := iv
  have LK : Hid (ks.length ≤ maxLen) := by show ks.length ≤ maxLen; unfold maxLen; omega
  have LV : Hid (vs.length ≤ maxLen) := by show vs.length ≤ maxLen; unfold maxLen; omega
  clear ha hb ik iv
  have HE : Hid (Pg.newE [h0, h1, h2, h3, h4, h5, h6] ks vs = e) := he
  clear he
  obtain ⟨q, eq⟩ : ∃ q, Pg.rightH [h0, h1, h2, h3, h4, h5, h6] = q := ⟨_, rfl⟩
  have EQ : Hid (Pg.rightH [h0, h1, h2, h3, h4, h5, h6] = q) := eq
  obtain ⟨p1, ep1⟩ : ∃ p, Pg.shapeB ks h3 h2 = p := ⟨_, rfl⟩
  obtain ⟨p2, ep2⟩ : ∃ p, Pg.shapeB vs h2 h3 = p := ⟨_, rfl⟩
  have P1 : Hid (Pg.shapeB ks h3 h2 = p1) := ep1
  have P2 : Hid (Pg.shapeB vs h2 h3 = p2) := ep2
  clear eq ep1 ep2
  cases q
  · have ee : e = 11 := by rw [← HE.out]; unfold Pg.newE; rw [if_pos EQ.out]
    subst ee
    go_enter Try.func48, Try.ntmps48
    go_wp2_with fail
    obtain ⟨u0, hu0⟩ : ∃ u, w.alloc (.cells #[.int .i64 h0, .int .i64 h1, .int .i64 h2, .int .i64 h3, .int .i64 h4, .int .i64 h5, .int .i64 h6] 55) = u := ⟨_, rfl⟩
    have U0 : Hid (Below w.heap.size w u0) := by rw [← hu0]; exact box_below _ _
    have HD : Hid (∀ v, Below u0.heap.size u0 v → HdAt v w.heap.size h0 h1 h2 h3 h4 h5 h6) := by rw [← hu0]; exact fun v hb => hd_box hb
    rw [hu0]
    clear hu0
    refine (rightP_any _ _ _ _ _ _ _ false EQ.out _).mono ?_
    rintro r v0 ⟨rfl, hb⟩
    have B0 : Hid (Below u0.heap.size u0 v0) := hb
    obtain ⟨x0, x1, x2, x3, _, _, _⟩ := HD.out v0 B0.out
    clear hb
    go_wp2
    go_ret2
    exact ⟨rfl, below_then U0.out B0.out⟩
  · cases p1
    · have ee : e = 25 := by rw [← HE.out]; unfold Pg.newE; rw [if_neg (by rw [EQ.out]; simp), if_pos (show Pg.shapeB ks (Ls.nth [h0, h1, h2, h3, h4, h5, h6] 3) (Ls.nth [h0, h1, h2, h3, h4, h5, h6] 2) = false from P1.out)]
      subst ee
      go_enter Try.func48, Try.ntmps48
      go_wp2_with fail
      obtain ⟨u0, hu0⟩ : ∃ u, w.alloc (.cells #[.int .i64 h0, .int .i64 h1, .int .i64 h2, .int .i64 h3, .int .i64 h4, .int .i64 h5, .int .i64 h6] 55) = u := ⟨_, rfl⟩
      have U0 : Hid (Below w.heap.size w u0) := by rw [← hu0]; exact box_below _ _
      have HD : Hid (∀ v, Below u0.heap.size u0 v → HdAt v w.heap.size h0 h1 h2 h3 h4 h5 h6) := by rw [← hu0]; exact fun v hb => hd_box hb
      rw [hu0]
      clear hu0
      refine (rightP_any _ _ _ _ _ _ _ true EQ.out _).mono ?_
      rintro r v0 ⟨rfl, hb⟩
      have B0 : Hid (Below u0.heap.size u0 v0) := hb
      obtain ⟨x0, x1, x2, x3, _, _, _⟩ := HD.out v0 B0.out
      clear hb
      go_wp2_with fail
      refine (groupsOf_any _ _ ks _ _ false _ (HA.out.keep (below_then U0.out B0.out)) LK.out P1.out).mono ?_
      rintro r v1 ⟨rfl, hb⟩
      clear x0 x1 x2 x3
      have B1 : Hid (Below u0.heap.size u0 v1) := below_then B0.out hb
      obtain ⟨x0, x1, x2, x3, _, _, _⟩ := HD.out v1 B1.out
      clear hb
      go_wp2
      go_ret2
      exact ⟨rfl, below_then U0.out B1.out⟩
    · cases p2
      · have ee : e = 25 := by rw [← HE.out]; unfold Pg.newE; rw [if_neg (by rw [EQ.out]; simp), if_neg (by rw [show Pg.shapeB ks (Ls.nth [h0, h1, h2, h3, h4, h5, h6] 3) (Ls.nth [h0, h1, h2, h3, h4, h5, h6] 2) = true from P1.out]; simp), if_pos (show Pg.shapeB vs (Ls.nth [h0, h1, h2, h3, h4, h5, h6] 2) (Ls.nth [h0, h1, h2, h3, h4, h5, h6] 3) = false from P2.out)]
        subst ee
        go_enter Try.func48, Try.ntmps48
        go_wp2_with fail
        obtain ⟨u0, hu0⟩ : ∃ u, w.alloc (.cells #[.int .i64 h0, .int .i64 h1, .int .i64 h2, .int .i64 h3, .int .i64 h4, .int .i64 h5, .int .i64 h6] 55) = u := ⟨_, rfl⟩
        have U0 : Hid (Below w.heap.size w u0) := by rw [← hu0]; exact box_below _ _
        have HD : Hid (∀ v, Below u0.heap.size u0 v → HdAt v w.heap.size h0 h1 h2 h3 h4 h5 h6) := by rw [← hu0]; exact fun v hb => hd_box hb
        rw [hu0]
        clear hu0
        refine (rightP_any _ _ _ _ _ _ _ true EQ.out _).mono ?_
        rintro r v0 ⟨rfl, hb⟩
        have B0 : Hid (Below u0.heap.size u0 v0) := hb
        obtain ⟨x0, x1, x2, x3, _, _, _⟩ := HD.out v0 B0.out
        clear hb
        go_wp2_with fail
        refine (groupsOf_any _ _ ks _ _ true _ (HA.out.keep (below_then U0.out B0.out)) LK.out P1.out).mono ?_
        rintro r v1 ⟨rfl, hb⟩
        clear x0 x1 x2 x3
        have B1 : Hid (Below u0.heap.size u0 v1) := below_then B0.out hb
        obtain ⟨x0, x1, x2, x3, _, _, _⟩ := HD.out v1 B1.out
        clear hb
        go_wp2_with fail
        refine (groupsOf_any _ _ vs _ _ false _ (HB.out.keep (below_then U0.out B1.out)) LV.out P2.out).mono ?_
        rintro r v2 ⟨rfl, hb⟩
        clear x0 x1 x2 x3
        have B2 : Hid (Below u0.heap.size u0 v2) := below_then B1.out hb
        obtain ⟨x0, x1, x2, x3, _, _, _⟩ := HD.out v2 B2.out
        clear hb
        go_wp2
        go_ret2
        exact ⟨rfl, below_then U0.out B2.out⟩
      · have S1 : Hid (Pg.shapeB ks (Ls.nth [h0, h1, h2, h3, h4, h5, h6] 3) (Ls.nth [h0, h1, h2, h3, h4, h5, h6] 2) = true) := P1.out
        have S2 : Hid (Pg.shapeB vs (Ls.nth [h0, h1, h2, h3, h4, h5, h6] 2) (Ls.nth [h0, h1, h2, h3, h4, h5, h6] 3) = true) := P2.out
        obtain ⟨qa, qb, qc, qd, qe, qf, _⟩ := Pg.rightH_all EQ.out
        have qa' : h0 = 2 ∨ h0 = 4 ∨ h0 = 8 := qa
        have qb' : h1 = 2 ∨ h1 = 4 ∨ h1 = 8 := qb
        have qc' : 1 ≤ h2 := qc
        have qd' : h2 ≤ 16 := qd
        have qe' : 1 ≤ h3 := qe
        have qf' : h3 ≤ 16 := qf
        obtain ⟨m0, s0, rfl, st0⟩ := Pg.okB_st (show Gp.okB h0 = true by unfold Gp.okB; rcases qa' with rfl | rfl | rfl <;> rfl)
        obtain ⟨m1, s1, rfl, st1⟩ := Pg.okB_st (show Gp.okB h1 = true by unfold Gp.okB; rcases qb' with rfl | rfl | rfl <;> rfl)
        obtain ⟨n0, rfl⟩ := Int.eq_ofNat_of_zero_le (show 0 ≤ h2 by omega)
        obtain ⟨d0, rfl⟩ := Int.eq_ofNat_of_zero_le (show 0 ≤ h3 by omega)
        have q1 : 1 ≤ n0 := by omega
        have q2 : n0 ≤ 256 := by omega
        have q3 : 1 ≤ d0 := by omega
        have q4 : d0 ≤ 256 := by omega
        have ST0 : Hid (Gp.St m0 s0) := st0
        have ST1 : Hid (Gp.St m1 s1) := st1
        have SK : Hid (∀ i, i < ks.length → (Pg.gc (Pg.nth ks i)).length = n0) := fun i hi => by have := (Pg.shapeB_all P1.out).1 i hi; omega
        have SV : Hid (∀ i, i < vs.length → (Pg.gc (Pg.nth vs i)).length = d0) := fun i hi => by have := (Pg.shapeB_all P2.out).1 i hi; omega
        have t0 : Pg.top (m0 : Int) = s0 := Pg.top_st st0
        have t1 : Pg.top (m1 : Int) = s1 := Pg.top_st st1
        clear qa qb qc qd qe qf qa' qb' qc' qd' qe' qf' st0 st1
        by_cases r0 : Pg.rightsN (s0 : Int) ks ks.length = 0
        · have RK : Hid (Pg.rightsN (s0 : Int) ks ks.length = 0) := r0
          have ev : Pg.rightsN (s1 : Int) vs vs.length = e := by
            rw [← HE.out, Pg.newE_vals EQ.out S1.out S2.out (by show Pg.rightsN (Pg.top (m0 : Int)) ks ks.length = 0; rw [t0]; exact r0)]
            show _ = Pg.rightsN (Pg.top (m1 : Int)) vs vs.length
            rw [t1]
          have RV : Hid (Pg.rightsN (s1 : Int) vs vs.length = e) := ev
          have g1 : (e != 0) = true := by simpa using hne
          clear ev r0
          go_enter Try.func48, Try.ntmps48
          go_wp2_with fail
          obtain ⟨u0, hu0⟩ : ∃ u, w.alloc (.cells #[.int .i64 (m0 : Int), .int .i64 (m1 : Int), .int .i64 (n0 : Int), .int .i64 (d0 : Int), .int .i64 h4, .int .i64 h5, .int .i64 h6] 55) = u := ⟨_, rfl⟩
          have U0 : Hid (Below w.heap.size w u0) := by rw [← hu0]; exact box_below _ _
          have HD : Hid (∀ v, Below u0.heap.size u0 v → HdAt v w.heap.size m0 m1 n0 d0 h4 h5 h6) := by rw [← hu0]; exact fun v hb => hd_box hb
          rw [hu0]
          clear hu0
          refine (rightP_any _ _ _ _ _ _ _ true EQ.out _).mono ?_
          rintro r v0 ⟨rfl, hb⟩
          have B0 : Hid (Below u0.heap.size u0 v0) := hb
          obtain ⟨x0, x1, x2, x3, _, _, _⟩ := HD.out v0 B0.out
          clear hb
          go_wp2_with fail
          refine (groupsOf_any _ _ ks _ _ true _ (HA.out.keep (below_then U0.out B0.out)) LK.out P1.out).mono ?_
          rintro r v1 ⟨rfl, hb⟩
          clear x0 x1 x2 x3
          have B1 : Hid (Below u0.heap.size u0 v1) := below_then B0.out hb
          obtain ⟨x0, x1, x2, x3, _, _, _⟩ := HD.out v1 B1.out
          clear hb
          go_wp2_with fail
          refine (groupsOf_any _ _ vs _ _ true _ (HB.out.keep (below_then U0.out B1.out)) LV.out P2.out).mono ?_
          rintro r v2 ⟨rfl, hb⟩
          clear x0 x1 x2 x3
          have B2 : Hid (Below u0.heap.size u0 v2) := below_then B1.out hb
          obtain ⟨x0, x1, x2, x3, _, _, _⟩ := HD.out v2 B2.out
          clear hb
          go_wp2_with fail
          refine (allRight_any _ _ m0 s0 n0 ks 0 _ (HA.out.keep (below_then U0.out B2.out)) lk ST0.out SK.out q1 q2 IK.out RK.out).mono ?_
          rintro r v3 ⟨rfl, hb⟩
          clear x0 x1 x2 x3
          have B3 : Hid (Below u0.heap.size u0 v3) := below_then B2.out hb
          obtain ⟨x0, x1, x2, x3, _, _, _⟩ := HD.out v3 B3.out
          clear hb
          go_wp2_with fail
          refine (allRight_any _ _ m1 s1 d0 vs e _ (HB.out.keep (below_then U0.out B3.out)) lv ST1.out SV.out q3 q4 IV.out RV.out).mono ?_
          rintro r v4 ⟨rfl, hb⟩
          clear x0 x1 x2 x3
          have B4 : Hid (Below u0.heap.size u0 v4) := below_then B3.out hb
          obtain ⟨x0, x1, x2, x3, _, _, _⟩ := HD.out v4 B4.out
          clear hb
          go_wp2
          go_ret2
          exact ⟨rfl, below_then U0.out B4.out⟩
        · obtain ⟨y, ey⟩ : ∃ y, Pg.rightsN (s0 : Int) ks ks.length = y := ⟨_, rfl⟩
          have RK : Hid (Pg.rightsN (s0 : Int) ks ks.length = y) := ey
          have ee : e = y := by
            rw [← HE.out, Pg.newE_keys EQ.out S1.out S2.out (by show ¬ Pg.rightsN (Pg.top (m0 : Int)) ks ks.length = 0; rw [t0]; exact r0)]
            show Pg.rightsN (Pg.top (m0 : Int)) ks ks.length = y
            rw [t0, ey]
          subst ee
          have g1 : (e != 0) = true := by simpa using hne
          clear ey r0
          go_enter Try.func48, Try.ntmps48
          go_wp2_with fail
          obtain ⟨u0, hu0⟩ : ∃ u, w.alloc (.cells #[.int .i64 (m0 : Int), .int .i64 (m1 : Int), .int .i64 (n0 : Int), .int .i64 (d0 : Int), .int .i64 h4, .int .i64 h5, .int .i64 h6] 55) = u := ⟨_, rfl⟩
          have U0 : Hid (Below w.heap.size w u0) := by rw [← hu0]; exact box_below _ _
          have HD : Hid (∀ v, Below u0.heap.size u0 v → HdAt v w.heap.size m0 m1 n0 d0 h4 h5 h6) := by rw [← hu0]; exact fun v hb => hd_box hb
          rw [hu0]
          clear hu0
          refine (rightP_any _ _ _ _ _ _ _ true EQ.out _).mono ?_
          rintro r v0 ⟨rfl, hb⟩
          have B0 : Hid (Below u0.heap.size u0 v0) := hb
          obtain ⟨x0, x1, x2, x3, _, _, _⟩ := HD.out v0 B0.out
          clear hb
          go_wp2_with fail
          refine (groupsOf_any _ _ ks _ _ true _ (HA.out.keep (below_then U0.out B0.out)) LK.out P1.out).mono ?_
          rintro r v1 ⟨rfl, hb⟩
          clear x0 x1 x2 x3
          have B1 : Hid (Below u0.heap.size u0 v1) := below_then B0.out hb
          obtain ⟨x0, x1, x2, x3, _, _, _⟩ := HD.out v1 B1.out
          clear hb
          go_wp2_with fail
          refine (groupsOf_any _ _ vs _ _ true _ (HB.out.keep (below_then U0.out B1.out)) LV.out P2.out).mono ?_
          rintro r v2 ⟨rfl, hb⟩
          clear x0 x1 x2 x3
          have B2 : Hid (Below u0.heap.size u0 v2) := below_then B1.out hb
          obtain ⟨x0, x1, x2, x3, _, _, _⟩ := HD.out v2 B2.out
          clear hb
          go_wp2_with fail
          refine (allRight_any _ _ m0 s0 n0 ks e _ (HA.out.keep (below_then U0.out B2.out)) lk ST0.out SK.out q1 q2 IK.out RK.out).mono ?_
          rintro r v3 ⟨rfl, hb⟩
          clear x0 x1 x2 x3
          have B3 : Hid (Below u0.heap.size u0 v3) := below_then B2.out hb
          obtain ⟨x0, x1, x2, x3, _, _, _⟩ := HD.out v3 B3.out
          clear hb
          go_wp2
          go_ret2
          exact ⟨rfl, below_then U0.out B3.out⟩

set_option maxRecDepth 100000 in
set_option maxHeartbeats 3200000 in
theorem newP_ok (m0 m1 n0 d0 : Nat) (h4 h5 h6 : Int) (a1 a2 : Option Addr) (c1 c2 : Nat) (ks vs : List (Int × Int × List Int)) (w : World) (ha : Gps w a1 ks) (hb : Gps w a2 vs) (lk : ks.length ≤ 10000) (lv : vs.length ≤ 10000) (ik : InG ks) (iv : InG vs) (he : Pg.newE [(m0 : Int), m1, n0, d0, h4, h5, h6] ks vs = 0) :
    Calls Try.prog 48 #[.agg #[.int .i64 (m0 : Int), .int .i64 (m1 : Int), .int .i64 (n0 : Int), .int .i64 (d0 : Int), .int .i64 h4, .int .i64 h5, .int .i64 h6], .slice a1 ks.length c1, .slice a2 vs.length c2] w fun r w' => ∃ p, r = .returned (.tuple #[.pointer (some ⟨p, 0, none⟩), .int .i64 0]) ∧ w.heap.size ≤ p ∧ PageAt w' p m0 m1 n0 d0 h4 h5 h6 ks vs ∧ Below w.heap.size w w' := by
  have hp := Pg.newE_page (h := [(m0 : Int), m1, n0, d0, h4, h5, h6]) rfl ik iv he
  have HA : Hid (Gps w a1 ks) := ha
  have HB : Hid (Gps w a2 vs) := hb
  have IK : Hid (InG ks) := ik
  have IV : Hid (InG vs) := iv
  have LK : Hid (ks.length ≤ maxLen) := by show ks.length ≤ maxLen; unfold maxLen; omega
  have LV : Hid (vs.length ≤ maxLen) := by show vs.length ≤ maxLen; unfold maxLen; omega
  clear ha hb ik iv
  obtain ⟨hr, sk, sv, rk, rv⟩ := Pg.newE_zero he
  obtain ⟨qa, qb, qc, qd, qe, qf, _⟩ := Pg.rightH_all hr
  have qa' : (m0 : Int) = 2 ∨ (m0 : Int) = 4 ∨ (m0 : Int) = 8 := qa
  have qb' : (m1 : Int) = 2 ∨ (m1 : Int) = 4 ∨ (m1 : Int) = 8 := qb
  have q1 : 1 ≤ n0 := by have : (1 : Int) ≤ n0 := qc; omega
  have q2 : n0 ≤ 256 := by have : (n0 : Int) ≤ 16 := qd; omega
  have q3 : 1 ≤ d0 := by have : (1 : Int) ≤ d0 := qe; omega
  have q4 : d0 ≤ 256 := by have : (d0 : Int) ≤ 16 := qf; omega
  obtain ⟨m0', s0, e0, st0⟩ := Pg.okB_st (show Gp.okB (m0 : Int) = true by unfold Gp.okB; rcases qa' with e | e | e <;> rw [e] <;> rfl)
  obtain ⟨m1', s1, e1, st1⟩ := Pg.okB_st (show Gp.okB (m1 : Int) = true by unfold Gp.okB; rcases qb' with e | e | e <;> rw [e] <;> rfl)
  obtain rfl : m0 = m0' := by omega
  obtain rfl : m1 = m1' := by omega
  have EQ : Hid (Pg.rightH [(m0 : Int), m1, n0, d0, h4, h5, h6] = true) := hr
  have P1 : Hid (Pg.shapeB ks (d0 : Int) (n0 : Int) = true) := sk
  have P2 : Hid (Pg.shapeB vs (n0 : Int) (d0 : Int) = true) := sv
  have ST0 : Hid (Gp.St m0 s0) := st0
  have ST1 : Hid (Gp.St m1 s1) := st1
  have SK : Hid (∀ i, i < ks.length → (Pg.gc (Pg.nth ks i)).length = n0) := fun i hi => by have := (Pg.shapeB_all P1.out).1 i hi; omega
  have SV : Hid (∀ i, i < vs.length → (Pg.gc (Pg.nth vs i)).length = d0) := fun i hi => by have := (Pg.shapeB_all P2.out).1 i hi; omega
  have NK : Hid (ks.length = d0) := by show _ = _; have := (Pg.shapeB_all P1.out).2; omega
  have NV : Hid (vs.length = n0) := by show _ = _; have := (Pg.shapeB_all P2.out).2; omega
  have RK : Hid (Pg.rightsN (s0 : Int) ks ks.length = 0) := by rw [← Pg.top_st st0]; exact rk
  have RV : Hid (Pg.rightsN (s1 : Int) vs vs.length = 0) := by rw [← Pg.top_st st1]; exact rv
  have HP : Hid (Pg.Page [(m0 : Int), m1, n0, d0, h4, h5, h6] ks vs) := hp
  have FK : Hid (Pg.AllFit m0 n0 ks) := hp.2.2.2.2.1
  have FV : Hid (Pg.AllFit m1 d0 vs) := hp.2.2.2.2.2.1
  have OK0 : Hid (Pk.Ok m0) := St.ok st0
  have OK1 : Hid (Pk.Ok m1) := St.ok st1
  clear he hp hr sk sv rk rv qa qb qc qd qe qf qa' qb' e0 e1 st0 st1
  go_enter Try.func48, Try.ntmps48
  go_wp2_with fail
  obtain ⟨u0, hu0⟩ : ∃ u, w.alloc (.cells #[.int .i64 (m0 : Int), .int .i64 (m1 : Int), .int .i64 (n0 : Int), .int .i64 (d0 : Int), .int .i64 h4, .int .i64 h5, .int .i64 h6] 55) = u := ⟨_, rfl⟩
  have U0 : Hid (Below w.heap.size w u0) := by rw [← hu0]; exact box_below _ _
  have HD : Hid (∀ v, Below u0.heap.size u0 v → HdAt v w.heap.size m0 m1 n0 d0 h4 h5 h6) := by rw [← hu0]; exact fun v hb => hd_box hb
  rw [hu0]
  clear hu0
  refine (rightP_any _ _ _ _ _ _ _ true EQ.out _).mono ?_
  rintro r v0 ⟨rfl, hb⟩
  have B0 : Hid (Below u0.heap.size u0 v0) := hb
  obtain ⟨x0, x1, x2, x3, _, _, _⟩ := HD.out v0 B0.out
  clear hb
  go_wp2_with fail
  refine (groupsOf_any _ _ ks _ _ true _ (HA.out.keep (below_then U0.out B0.out)) LK.out P1.out).mono ?_
  rintro r v1 ⟨rfl, hb⟩
  clear x0 x1 x2 x3
  have B1 : Hid (Below u0.heap.size u0 v1) := below_then B0.out hb
  obtain ⟨x0, x1, x2, x3, _, _, _⟩ := HD.out v1 B1.out
  clear hb
  go_wp2_with fail
  refine (groupsOf_any _ _ vs _ _ true _ (HB.out.keep (below_then U0.out B1.out)) LV.out P2.out).mono ?_
  rintro r v2 ⟨rfl, hb⟩
  clear x0 x1 x2 x3
  have B2 : Hid (Below u0.heap.size u0 v2) := below_then B1.out hb
  obtain ⟨x0, x1, x2, x3, _, _, _⟩ := HD.out v2 B2.out
  clear hb
  go_wp2_with fail
  refine (allRight_any _ _ m0 s0 n0 ks 0 _ (HA.out.keep (below_then U0.out B2.out)) lk ST0.out SK.out q1 q2 IK.out RK.out).mono ?_
  rintro r v3 ⟨rfl, hb⟩
  clear x0 x1 x2 x3
  have B3 : Hid (Below u0.heap.size u0 v3) := below_then B2.out hb
  obtain ⟨x0, x1, x2, x3, _, _, _⟩ := HD.out v3 B3.out
  clear hb
  go_wp2_with fail
  refine (allRight_any _ _ m1 s1 d0 vs 0 _ (HB.out.keep (below_then U0.out B3.out)) lv ST1.out SV.out q3 q4 IV.out RV.out).mono ?_
  rintro r v4 ⟨rfl, hb⟩
  clear x0 x1 x2 x3
  have B4 : Hid (Below u0.heap.size u0 v4) := below_then B3.out hb
  obtain ⟨x0, x1, x2, x3, _, _, _⟩ := HD.out v4 B4.out
  clear hb
  go_wp2_with fail
  clear x0 x1 x2 x3
  have KS : Hid (∀ w', Below v4.heap.size v4 w' → HdAt w' w.heap.size m0 m1 n0 d0 h4 h5 h6 ∧ Hid (Below v4.heap.size v4 w')) := fun w' hb => ⟨HD.out w' (below_then B4.out hb), hb⟩
  unfold HdAt at KS
  go_region_held3 (fun w' => (w'.cell? ⟨w.heap.size, 0, none⟩ = some (.int .i64 (m0 : Int)) ∧ w'.cell? ⟨w.heap.size, 1, none⟩ = some (.int .i64 (m1 : Int)) ∧ w'.cell? ⟨w.heap.size, 2, none⟩ = some (.int .i64 (n0 : Int)) ∧ w'.cell? ⟨w.heap.size, 3, none⟩ = some (.int .i64 (d0 : Int)) ∧ w'.cell? ⟨w.heap.size, 4, none⟩ = some (.int .i64 h4) ∧ w'.cell? ⟨w.heap.size, 5, none⟩ = some (.int .i64 h5) ∧ w'.cell? ⟨w.heap.size, 6, none⟩ = some (.int .i64 h6)) ∧ Hid (Below v4.heap.size v4 w'))
    (first
      | exact KS.out _ ((Below.refl v4.heap.size v4).drew)
      | exact KS.out _ hbd.out
      | exact KS.out _ (below_then hbd.out (box_below _ _))
      | exact KS.out _ hbc.out
      | assumption)
    (first
      | (go_at_call 58; (with_reducible refine (packAll_any _ _ m0 n0 ks _ (HA.out.keep (below_then (below_then U0.out B4.out) ((Below.refl v4.heap.size v4).drew))) lk OK0.out FK.out q2).mono ?_); rintro e v5 ⟨g1, rfl, hg1, hk1, hb⟩; have hbc : Hid (Below v4.heap.size v4 v5) := ((Below.refl v4.heap.size v4).drew).trans hb; have K1 : Hid (Pks v5 g1 m0 ks) := hk1; clear hb hg1 hk1)
      | (go_at_call 58; (with_reducible refine (packAll_any _ _ m1 d0 vs _ (HB.out.keep (below_then (below_then U0.out B4.out) hbc.out)) lv OK1.out FV.out q4).mono ?_); rintro e v6 ⟨g2, rfl, hg2, hk2, hb⟩; have hbd : Hid (Below v4.heap.size v4 v6) := below_then hbc.out hb; have K2 : Hid (Pks v6 g1 m0 ks ∧ Pks v6 g2 m1 vs) := ⟨K1.out.keep hb, hk2⟩; clear hb hg2 hk2))
  go_wp2
  go_ret2
  refine ⟨v6.heap.size, rfl, (below_then U0.out (below_then B4.out hbd.out)).size, ⟨g1, g2, ?_, K2.out.1.keep (box_below _ _), K2.out.2.keep (box_below _ _), HP.out⟩, below_then (below_then U0.out (below_then B4.out hbd.out)) (box_below _ _)⟩
  rw [NK.out, NV.out]
  exact World.rowIs_alloc v6 _ 91 _ (fun i hi => by match i, hi with | 0, _ => rfl | 1, _ => rfl | 2, _ => rfl | 3, _ => rfl | 4, _ => rfl | 5, _ => rfl | 6, _ => rfl | 7, _ => rfl | 8, _ => rfl)
end Go.Proofs.Ytpifemahakbegaa
/- Contracts of package page: lists turned, lists grouped. -/
namespace Go.Proofs.Ytpifemahakbegaa
set_option linter.unusedVariables false
open Go.RowKit
attribute [local go_sem ↓] Go.wp_at_zero Go.wp_at_succ

/-- A TABLE AT BLOCK g, its first k rows made: each lies behind the table, below block B. -/
def TRow (w : World) (g : Nat) (t : TypeId) (N : Nat) (ls : List (List Int)) (k B : Nat) : Prop :=
  ∃ f, w.rowIs g t N f ∧ ∀ i, i < k → ∃ b, f i = .slice (some ⟨b, 0, none⟩) (Tb.row ls i).length (Tb.row ls i).length ∧ g < b ∧ b < B ∧ w.rowIs b 21 (Tb.row ls i).length (fun j => .int .i32 (Ls.nth (Tb.row ls i) j))
theorem TRow.keep {w w' : World} {g : Nat} {t : TypeId} {N : Nat} {ls : List (List Int)} {k B : Nat} (h : TRow w g t N ls k B) (hb : Below w.heap.size w w') : TRow w' g t N ls k B := by
  obtain ⟨f, hr, hc⟩ := h
  refine ⟨f, row_keep hr hb, fun i hi => ?_⟩
  obtain ⟨b, h0, h1, h2, h3⟩ := hc i hi
  exact ⟨b, h0, h1, h2, row_keep h3 hb⟩
theorem TRow.mono {w : World} {g : Nat} {t : TypeId} {N : Nat} {ls : List (List Int)} {k B B' : Nat} (h : TRow w g t N ls k B) (hB : B ≤ B') : TRow w g t N ls k B' := by
  obtain ⟨f, hr, hc⟩ := h
  refine ⟨f, hr, fun i hi => ?_⟩
  obtain ⟨b, h0, h1, h2, h3⟩ := hc i hi
  exact ⟨b, h0, h1, by omega, h3⟩
theorem TRow.drew {w : World} {g : Nat} {t : TypeId} {N : Nat} {ls : List (List Int)} {k B : Nat} (h : TRow w g t N ls k B) : TRow w.drew g t N ls k B := h.keep ((Below.refl _ _).drew)
theorem TRow.lt {w : World} {g : Nat} {t : TypeId} {N : Nat} {ls : List (List Int)} {k B : Nat} (h : TRow w g t N ls k B) : g < w.heap.size := by
  obtain ⟨f, hr, _⟩ := h
  exact hr.lt
theorem TRow.room {w : World} {g : Nat} {t : TypeId} {N : Nat} {ls : List (List Int)} {k B : Nat} (h : TRow w g t N ls k B) : ∃ f, w.rowIs g t N f := by
  obtain ⟨f, hr, _⟩ := h
  exact ⟨f, hr⟩
/-- A store into a row that is not one of them. -/
theorem TRow.other {w : World} {g : Nat} {t : TypeId} {N : Nat} {ls : List (List Int)} {k B : Nat} (h : TRow w g t N ls k B) {R o : Nat} (hg : g < R) (hB : B ≤ R) (v : Value) : TRow (w.setCell ⟨R, o, none⟩ v) g t N ls k B := by
  obtain ⟨f, hr, hc⟩ := h
  refine ⟨f, hr.setOther (by show g ≠ R; omega) _, fun i hi => ?_⟩
  obtain ⟨b, h0, h1, h2, h3⟩ := hc i hi
  exact ⟨b, h0, h1, h2, h3.setOther (by show b ≠ R; omega) _⟩
/-- The next row's place is written. -/
theorem TRow.top {w : World} {g : Nat} {t : TypeId} {N : Nat} {ls : List (List Int)} {k B : Nat} (h : TRow w g t N ls k B) (hk : k < N) (v : Value) : TRow (w.setCell ⟨g, k, none⟩ v) g t N ls k B ∧ (w.setCell ⟨g, k, none⟩ v).cell? ⟨g, k, none⟩ = some v := by
  obtain ⟨f, hr, hc⟩ := h
  have hs := hr.set k v
  refine ⟨⟨_, hs, fun i hi => ?_⟩, by rw [hs.cell hk, if_pos rfl]⟩
  obtain ⟨b, h0, h1, h2, h3⟩ := hc i hi
  exact ⟨b, by rw [if_neg (by omega)]; exact h0, h1, h2, h3.setOther (by show b ≠ g; omega) _⟩
theorem TRow.close {w : World} {g : Nat} {t : TypeId} {N : Nat} {ls : List (List Int)} {k B : Nat} (h : TRow w g t N ls k B) (hk : k < N) {R n : Nat} (hc : w.cell? ⟨g, k, none⟩ = some (.slice (some ⟨R, 0, none⟩) n n)) (hg : g < R) (hB : B ≤ R) (hn : (Tb.row ls k).length = n) {f : Nat → Value} (hr : w.rowIs R 21 n f) (hf : ∀ j, j < n → f j = .int .i32 (Ls.nth (Tb.row ls k) j)) : TRow w g t N ls (k + 1) (R + 1) := by
  obtain ⟨f', hr', hc'⟩ := h
  refine ⟨f', hr', fun i hi => ?_⟩
  by_cases e : i = k
  · subst e
    refine ⟨R, ?_, hg, by omega, ?_⟩
    · rw [hr'.cell hk] at hc
      rw [hn]
      exact Option.some.inj hc
    · rw [hn]
      exact hr.congr hf
  · obtain ⟨b, h0, h1, h2, h3⟩ := hc' i (by omega)
    exact ⟨b, h0, h1, by omega, h3⟩
theorem TRow.tbl {w : World} {g : Nat} {t : TypeId} {N : Nat} {ls : List (List Int)} {B : Nat} (h : TRow w g t N ls ls.length B) (hN : N = ls.length) (hm : ∀ i, i < ls.length → (Tb.row ls i).length ≤ maxLen) : Tbl w (some ⟨g, 0, none⟩) ls := by
  obtain ⟨f, hr, hc⟩ := h
  intro i hi
  obtain ⟨b, h0, h1, h2, h3⟩ := hc i hi
  refine ⟨g, 0, some ⟨b, 0, none⟩, (Tb.row ls i).length, rfl, ?_, lst_of_row h3 (fun j hj => rfl), hm i hi⟩
  rw [Nat.zero_add, hr.cell (by omega), h0]

theorem Try.infoRow32 : (Try.prog.info? 83).map (fun i => (i.zero, i.size, i.bytes)) = some (some (.slice none 0 0), 1, 24) := by kernel_rfl
/-- The columns of a table. -/
def Pg.cols (d : Nat) (ls : List (List Int)) : List (List Int) := (List.range d).map (Pg.col ls)
theorem Pg.cols_length (d : Nat) (ls : List (List Int)) : (Pg.cols d ls).length = d := by simp [Pg.cols]
theorem Pg.row_cols {d i : Nat} {ls : List (List Int)} (h : i < d) : Tb.row (Pg.cols d ls) i = Pg.col ls i := Tb.row_map_range _ h

set_option maxRecDepth 100000 in
set_option maxHeartbeats 1600000 in
theorem turned_any (a : Option Addr) (c d : Nat) (ls : List (List Int)) (w : World) (ha : Tbl w a ls) (hl : ls.length ≤ 256) (hd : d ≤ 256) (hr : ∀ k, k < ls.length → (Tb.row ls k).length = d) :
    Calls Try.prog 50 #[.slice a ls.length c, .int .i64 d] w fun e w' => ∃ g, e = .returned (.slice (some ⟨g, 0, none⟩) d d) ∧ w.heap.size ≤ g ∧ Tbl w' (some ⟨g, 0, none⟩) (Pg.cols d ls) ∧ Below w.heap.size w w' := by
  have HA : Hid (Tbl w a ls) := ha
  have HL : Hid (∀ k, k < ls.length → (Tb.row ls k).length = d) := hr
  clear ha hr
  have hmk := run_make_row' (P := Try.prog) 84 83 (.slice none 0 0) 24 Try.underlying84 Try.infoRow32 rfl .i64 .i64 d (by omega) (by omega)
  have hmr := run_make_row' (P := Try.prog) 83 21 (.int .i32 0) 4 Try.underlying83 Try.infoInt32 rfl .i64 .i64 ls.length (by omega) (by omega)
  go_enter Try.func50, Try.ntmps50
  go_wp2
  clear hmk
  go_loopw [13] (fun i wr => ∃ k : Nat, k ≤ d ∧ i = .int .i64 k ∧ TRow wr w.heap.size 83 d (Pg.cols d ls) k wr.heap.size ∧ Below w.heap.size w wr) (fun i _ => d - (intOf i).toNat)
  case atStart => exact ⟨0, Nat.zero_le _, rfl, ⟨_, World.rowIs_made w (.slice none 0 0) d 83, fun i hi => by omega⟩, (Below.refl _ _).alloc (Nat.le_refl _) _⟩
  case round =>
    obtain ⟨k, hk, rfl, hrow, hbel⟩ := hrel
    by_cases hlt : k < d
    · obtain ⟨S, eS⟩ : ∃ S, wr.heap.size = S := ⟨_, rfl⟩
      have hgS : w.heap.size < S := by rw [← eS]; exact hrow.lt
      obtain ⟨f, hr⟩ := hrow.room
      have r0 := hr.cell hlt
      have s0 := hr.frozen k
      rw [eS] at hrow
      have hmr2 := hmr wr
      rw [eS] at hmr2
      obtain ⟨T1, C1⟩ := hrow.top hlt (.slice (some ⟨S, 0, none⟩) ls.length ls.length)
      have eS2 : (wr.setCell ⟨w.heap.size, k, none⟩ (.slice (some ⟨S, 0, none⟩) ls.length ls.length)).heap.size = S := by rw [← eS]; simp [World.setCell]
      have C2 : ((wr.setCell ⟨w.heap.size, k, none⟩ (.slice (some ⟨S, 0, none⟩) ls.length ls.length)).alloc (.cells (madeCells #[.int .i32 0] ls.length) 21)).cell? ⟨w.heap.size, k, none⟩ = some (.slice (some ⟨S, 0, none⟩) ls.length ls.length) := by
        rw [(box_below _ _).cell (p := ⟨w.heap.size, k, none⟩) (by rw [eS2]; exact hgS)]
        exact C1
      have R1 : ((wr.setCell ⟨w.heap.size, k, none⟩ (.slice (some ⟨S, 0, none⟩) ls.length ls.length)).alloc (.cells (madeCells #[.int .i32 0] ls.length) 21)).rowIs S 21 ls.length (fun _ => .int .i32 0) := by
        have := World.rowIs_made (wr.setCell ⟨w.heap.size, k, none⟩ (.slice (some ⟨S, 0, none⟩) ls.length ls.length)) (.int .i32 0) ls.length 21
        rw [eS2] at this
        exact this
      have B1 : Below w.heap.size w ((wr.setCell ⟨w.heap.size, k, none⟩ (.slice (some ⟨S, 0, none⟩) ls.length ls.length)).alloc (.cells (madeCells #[.int .i32 0] ls.length) 21)) := (hbel.setCell (by simp) _).alloc (by rw [eS2]; omega) _
      have ALL : Hid (TRow ((wr.setCell ⟨w.heap.size, k, none⟩ (.slice (some ⟨S, 0, none⟩) ls.length ls.length)).alloc (.cells (madeCells #[.int .i32 0] ls.length) 21)) w.heap.size 83 d (Pg.cols d ls) k S ∧ ((wr.setCell ⟨w.heap.size, k, none⟩ (.slice (some ⟨S, 0, none⟩) ls.length ls.length)).alloc (.cells (madeCells #[.int .i32 0] ls.length) 21)).cell? ⟨w.heap.size, k, none⟩ = some (.slice (some ⟨S, 0, none⟩) ls.length ls.length) ∧ ((wr.setCell ⟨w.heap.size, k, none⟩ (.slice (some ⟨S, 0, none⟩) ls.length ls.length)).alloc (.cells (madeCells #[.int .i32 0] ls.length) 21)).rowIs S 21 ls.length (fun _ => .int .i32 0) ∧ Below w.heap.size w ((wr.setCell ⟨w.heap.size, k, none⟩ (.slice (some ⟨S, 0, none⟩) ls.length ls.length)).alloc (.cells (madeCells #[.int .i32 0] ls.length) 21))) := ⟨T1.keep (box_below _ _), C2, R1, B1⟩
      clear eS2 C2
      clear T1 C1 R1 B1 hrow hbel hr hmr
      go_wp2
      clear hmr2 r0 s0
      go_loopw [24] (fun i wr => ∃ j : Nat, j ≤ ls.length ∧ i = .int .i64 j ∧ TRow wr w.heap.size 83 d (Pg.cols d ls) k S ∧ wr.cell? ⟨w.heap.size, k, none⟩ = some (.slice (some ⟨S, 0, none⟩) ls.length ls.length) ∧ wr.rowIs S 21 ls.length (part (fun q => Ls.nth (Tb.row ls q) k) j) ∧ Below w.heap.size w wr) (fun i _ => ls.length - (intOf i).toNat)
      case atStart => exact ⟨0, Nat.zero_le _, rfl, ALL.out.1, ALL.out.2.1, ALL.out.2.2.1.congr (fun j hj => by simp [part]), ALL.out.2.2.2⟩
      case round =>
        clear ALL eS
        obtain ⟨j, hj, rfl, htop, hcl, hrow, hbel⟩ := hrel
        by_cases hjl : j < ls.length
        · obtain ⟨b1, o1, rfl, hc1⟩ := (HA.out.keep hbel).get hjl
          obtain ⟨A, C, hck, hLk, _⟩ := hc1 j hjl
          have hlen := HL.out j hjl
          obtain ⟨b2, o2, rfl, hc2⟩ := hLk.get (show k < (Tb.row ls j).length by rw [hlen]; exact hlt)
          have hckk := hc2 k (by rw [hlen]; exact hlt)
          rw [hlen] at hck
          have hcg := hrow.cell hjl
          have hfg := hrow.frozen j
          have HR : Hid (wr.rowIs S 21 ls.length (part (fun q => Ls.nth (Tb.row ls q) k) j)) := hrow
          have HB : Hid (Below w.heap.size w wr) := hbel
          have HT : Hid (TRow wr w.heap.size 83 d (Pg.cols d ls) k S) := htop
          have HC : Hid (wr.cell? ⟨w.heap.size, k, none⟩ = some (.slice (some ⟨S, 0, none⟩) ls.length ls.length)) := hcl
          clear hc1 hc2 hLk hlen hrow hbel htop
          have e0 : (0 : Int) ≤ (j : Int) := by omega
          have e1 : (j : Int) < (ls.length : Int) := by omega
          have e2 : (0 : Int) ≤ (k : Int) := by omega
          have e3 : (k : Int) < (d : Int) := by omega
          go_wp2
          go_region
          all_goals go_wp2
          all_goals go_roundw
          case rel =>
            refine ⟨j + 1, by omega, by go_num, (HT.out.other (by omega) (Nat.le_refl _) _).drew, ?_, (HR.out.set j _).drew.congr (fun q hq => part_set _ j q), (HB.out.setCell (by show w.heap.size ≤ S; omega) _).drew⟩
            show (wr.setCell ⟨S, j, none⟩ _).cell? ⟨w.heap.size, k, none⟩ = _
            rw [World.cell?_of_block (w := wr) (Go.Deep.blk_setCell_other _ _ _ _ (by show w.heap.size ≠ S; omega))]
            exact HC.out
          case measure => simp [intOf]; omega
        · have ej : j = ls.length := by omega
          subst ej
          have TT : Hid (TRow wr w.heap.size 83 d (Pg.cols d ls) (k + 1) wr.heap.size) := (htop.close hlt hcl (by omega) (Nat.le_refl _) (by rw [Pg.row_cols hlt, Pg.col_length]) hrow (fun q hq => by rw [part_lt hq, Pg.row_cols hlt, Pg.nth_col hq])).mono (by have := hrow.lt; omega)
          have HB : Hid (Below w.heap.size w wr) := hbel
          clear htop hcl hrow hbel
          go_wp2
          go_roundw
          case rel => exact ⟨k + 1, by omega, by go_num, TT.out, HB.out⟩
          case measure => simp [intOf]; omega
    · have e : k = d := by omega
      subst e
      have T : Hid (Tbl wr (some ⟨w.heap.size, 0, none⟩) (Pg.cols k ls)) := by
        refine TRow.tbl (N := k) (t := 83) (B := wr.heap.size) (by rw [Pg.cols_length]; exact hrow) (Pg.cols_length _ _).symm (fun i hi => ?_)
        rw [Pg.cols_length] at hi
        rw [Pg.row_cols hi, Pg.col_length]
        unfold maxLen
        omega
      have HB : Hid (Below w.heap.size w wr) := hbel
      clear hrow hbel hmr
      go_wp2
      go_ret
      exact ⟨w.heap.size, rfl, Nat.le_refl _, T.out, HB.out⟩

set_option maxHeartbeats 1600000 in
theorem groupAll_any (a : Option Addr) (c b s n : Nat) (ls : List (List Int)) (w : World) (ha : Tbl w a ls) (hl : ls.length ≤ 256) (hst : Gp.St b s) (hx : ∀ k, Ls.In32 (Tb.row ls k)) (hr : ∀ k, k < ls.length → (Tb.row ls k).length = n) (h1 : 1 ≤ n) (h2 : n ≤ 256) :
    Calls Try.prog 49 #[.slice a ls.length c, .int .i64 b] w fun e w' => ∃ g, e = .returned (.slice (some ⟨g, 0, none⟩) ls.length ls.length) ∧ w.heap.size ≤ g ∧ Gps w' (some ⟨g, 0, none⟩) (Pg.qv s ls) ∧ Below w.heap.size w w' := by
  have HA : Hid (Tbl w a ls) := ha
  have HL : Hid (∀ k, k < ls.length → (Tb.row ls k).length = n) := hr
  have HX : Hid (∀ k, Ls.In32 (Tb.row ls k)) := hx
  have ST : Hid (Gp.St b s) := hst
  clear ha hr hx hst
  have hmk := run_make_rows (P := Try.prog) 103 114 (.agg #[.int .i32 0, .int .u32 0, .slice none 0 0]) #[.int .i32 0, .int .u32 0, .slice none 0 0] 3 32 rfl Try.underlying103 Try.infoGp .i64 .i64 ls.length (by omega) (by omega)
  go_enter Try.func49, Try.ntmps49
  go_wp2
  clear hmk
  go_loopw [13] (fun i wr => ∃ k : Nat, k ≤ ls.length ∧ i = .int .i64 k ∧ GRow wr w.heap.size 114 (ls.length * 3) (Pg.qv s ls) k ∧ Below w.heap.size w wr) (fun i _ => ls.length - (intOf i).toNat)
  case atStart => exact ⟨0, Nat.zero_le _, rfl, GRow.made w _ _ _ _, (Below.refl _ _).alloc (Nat.le_refl _) _⟩
  case round =>
    obtain ⟨k, hk, rfl, hrow, hbel⟩ := hrel
    have HR : Hid (GRow wr w.heap.size 114 (ls.length * 3) (Pg.qv s ls) k) := hrow
    have HW : Hid (Below w.heap.size w wr) := hbel
    have hlt0 := hrow.lt
    clear hrow hbel
    by_cases hlt : k < ls.length
    · obtain ⟨b1, o1, rfl, hc1⟩ := (HA.out.keep HW.out).get hlt
      obtain ⟨A, C, hck, hLk, _⟩ := hc1 k hlt
      have LK : Hid (Lst .i32 wr A (Tb.row ls k)) := hLk
      have hlen := HL.out k hlt
      have NK : Hid ((Tb.row ls k).length = n) := hlen
      obtain ⟨z, ez⟩ : ∃ z, Gp.low (Tb.row ls k) = z := ⟨_, rfl⟩
      obtain ⟨sc, es⟩ : ∃ z, Gp.scale s (Tb.row ls k) = z := ⟨_, rfl⟩
      have EG : Hid (Pg.nth (Pg.qv s ls) k = (z, sc, Gp.codes z sc (Tb.row ls k))) := by show _ = _; rw [Pg.nth_qv hlt]; unfold Pg.grp; rw [ez, es]
      have EZ : Hid (Gp.low (Tb.row ls k) = z) := ez
      have ES : Hid (Gp.scale s (Tb.row ls k) = sc) := es
      clear hc1 hLk hlen ez es
      go_wp2_with fail
      refine (of_ok _ _ b s (Tb.row ls k) _ LK.out (HX.out k) ST.out (by rw [NK.out]; omega) (by rw [NK.out]; omega) z sc EZ.out ES.out).mono ?_
      rintro e v ⟨g, rfl, hg, hL, hbv⟩
      have BV : Hid (Below w.heap.size w v) := below_then HW.out hbv
      have RV : Hid (GRow v w.heap.size 114 (ls.length * 3) (Pg.qv s ls) k) := HR.out.keep hbv
      have LV : Hid (Lst .i64 v (some ⟨g, 0, none⟩) (Gp.codes z sc (Tb.row ls k))) := hL
      have hg0 : w.heap.size < g := by omega
      obtain ⟨f, hr⟩ := RV.out.room
      have r0 := hr.cell (show k * 3 < ls.length * 3 by omega)
      have r1 := hr.cell (show k * 3 + 1 < ls.length * 3 by omega)
      have r2 := hr.cell (show k * 3 + 2 < ls.length * 3 by omega)
      have s0 := hr.frozen (k * 3)
      have s1 := hr.frozen (k * 3 + 1)
      have s2 := hr.frozen (k * 3 + 2)
      clear hg hL hbv hr hck
      go_wp2
      go_roundw
      case rel =>
        refine ⟨k + 1, by omega, by go_num, RV.out.step (by rw [EG.out]; rfl) (by rw [EG.out]; rfl) (by rw [EG.out]; exact Gp.codes_length _ _ _) (by rw [EG.out]; exact LV.out) (fun x e => by cases e; exact hg0), ?_⟩
        exact ((BV.out.setCell (by simp) _).setCell (by simp) _).setCell (by simp) _
      case measure => simp [intOf]; omega
    · have e : k = ls.length := by omega
      subst e
      go_wp2
      go_ret
      exact ⟨w.heap.size, rfl, Nat.le_refl _, GRow.gps (t := 114) (N := ls.length * 3) (by rw [Pg.qv_length]; exact HR.out) (by rw [Pg.qv_length]), HW.out⟩
end Go.Proofs.Ytpifemahakbegaa
/- Contracts of package page: Quantize. -/
namespace Go.Proofs.Ytpifemahakbegaa
set_option linter.unusedVariables false
open Go.RowKit
attribute [local go_sem ↓] Go.wp_at_zero Go.wp_at_succ

namespace Pg
theorem rightsN_none {s : Int} {l : List (Int × Int × List Int)} {k : Nat} (h : ∀ i, i < k → Gp.right s (gs (nth l i)) (gc (nth l i)) = 0) : rightsN s l k = 0 := by
  induction k with
  | zero => rfl
  | succ k ih => rw [rightsN_ok (ih fun i hi => h i (by omega))]; exact h k (by omega)
theorem top_pow {b : Int} (h : b = 2 ∨ b = 4 ∨ b = 8) : ((2 ^ b.toNat - 1 : Nat) : Int) = top b := by rcases h with rfl | rfl | rfl <;> rfl
/-- A page that may be is not refused. -/
theorem page_newE {h : List Int} {ks vs : List (Int × Int × List Int)} (hp : Page h ks vs) : newE h ks vs = 0 := by
  obtain ⟨_, hr, lk, lv, fk, fv, rk, rv⟩ := hp
  obtain ⟨a, b, c, d, e, f, _⟩ := rightH_all hr
  have e0 : top (Ls.nth h 0) = ((2 ^ kb h - 1 : Nat) : Int) := (top_pow a).symm
  have e1 : top (Ls.nth h 1) = ((2 ^ vb h - 1 : Nat) : Int) := (top_pow b).symm
  have sk : shapeB ks (Ls.nth h 3) (Ls.nth h 2) = true := by
    unfold shapeB
    refine decide_eq_true ⟨fun i hi => ?_, ?_⟩
    · have := (fk i hi).1; unfold tk at this; omega
    · unfold dm at lk; omega
  have sv : shapeB vs (Ls.nth h 2) (Ls.nth h 3) = true := by
    unfold shapeB
    refine decide_eq_true ⟨fun i hi => ?_, ?_⟩
    · have := (fv i hi).1; unfold dm at this; omega
    · unfold tk at lv; omega
  rw [newE_vals hr sk sv (by rw [e0]; exact rightsN_none rk), e1]
  exact rightsN_none rv
theorem fit_ing {b n : Nat} {l : List (Int × Int × List Int)} (h : AllFit b n l) (hn : n ≤ maxLen) : InG l := fun i hi => by
  obtain ⟨h1, _, h2, h3, h4, h5⟩ := h i hi
  exact ⟨h2, h3, h4, h5, by rw [h1]; exact hn⟩
theorem qv_cols (s : Int) (d : Nat) (ls : List (List Int)) : qv s (cols d ls) = qk s d ls := by
  apply ext_nth (by rw [qv_length, qk_length, cols_length])
  intro i hi
  rw [qv_length] at hi
  rw [nth_qv hi]
  rw [cols_length] at hi
  rw [nth_qk hi, row_cols hi]
end Pg

theorem groupAll_anym (a : Option Addr) (m c b s n : Nat) (ls : List (List Int)) (w : World) (hm : m = ls.length) (ha : Tbl w a ls) (hl : ls.length ≤ 256) (hst : Gp.St b s) (hx : ∀ k, Ls.In32 (Tb.row ls k)) (hr : ∀ k, k < ls.length → (Tb.row ls k).length = n) (h1 : 1 ≤ n) (h2 : n ≤ 256) :
    Calls Try.prog 49 #[.slice a m c, .int .i64 b] w fun e w' => ∃ g, e = .returned (.slice (some ⟨g, 0, none⟩) m m) ∧ w.heap.size ≤ g ∧ Gps w' (some ⟨g, 0, none⟩) (Pg.qv s ls) ∧ Below w.heap.size w w' := by
  subst hm
  exact groupAll_any a c b s n ls w ha hl hst hx hr h1 h2
theorem newP_okm (m0 m1 n0 d0 : Nat) (h4 h5 h6 : Int) (a1 a2 : Option Addr) (k1 k2 c1 c2 : Nat) (ks vs : List (Int × Int × List Int)) (w : World) (e1 : k1 = ks.length) (e2 : k2 = vs.length) (ha : Gps w a1 ks) (hb : Gps w a2 vs) (hp : Pg.Page [(m0 : Int), m1, n0, d0, h4, h5, h6] ks vs) :
    Calls Try.prog 48 #[.agg #[.int .i64 (m0 : Int), .int .i64 (m1 : Int), .int .i64 (n0 : Int), .int .i64 (d0 : Int), .int .i64 h4, .int .i64 h5, .int .i64 h6], .slice a1 k1 c1, .slice a2 k2 c2] w fun r w' => ∃ p, r = .returned (.tuple #[.pointer (some ⟨p, 0, none⟩), .int .i64 0]) ∧ w.heap.size ≤ p ∧ PageAt w' p m0 m1 n0 d0 h4 h5 h6 ks vs ∧ Below w.heap.size w w' := by
  subst e1 e2
  obtain ⟨_, _, qc, qd, qe, qf, _⟩ := Pg.rightH_all hp.2.1
  have qd' : (n0 : Int) ≤ 16 := qd
  have qf' : (d0 : Int) ≤ 16 := qf
  have lk : ks.length = d0 := hp.2.2.1
  have lv : vs.length = n0 := hp.2.2.2.1
  exact newP_ok m0 m1 n0 d0 h4 h5 h6 a1 a2 c1 c2 ks vs w ha hb (by omega) (by omega) (Pg.fit_ing hp.2.2.2.2.1 (show n0 ≤ maxLen by unfold maxLen; omega)) (Pg.fit_ing hp.2.2.2.2.2.1 (show d0 ≤ maxLen by unfold maxLen; omega)) (Pg.page_newE hp)

theorem quantP_range (h0 h1 h2 h3 h4 h5 h6 : Int) (a1 a2 : Option Addr) (c1 c2 : Nat) (k1 k2 : Nat) (w : World) (hq : Pg.rightH [h0, h1, h2, h3, h4, h5, h6] = false) :
    Calls Try.prog 38 #[.agg #[.int .i64 h0, .int .i64 h1, .int .i64 h2, .int .i64 h3, .int .i64 h4, .int .i64 h5, .int .i64 h6], .slice a1 k1 c1, .slice a2 k2 c2] w fun r w' => r = .returned (.tuple #[.pointer none, .int .i64 11]) ∧ Below w.heap.size w w' := by
  have EQ : Hid (Pg.rightH [h0, h1, h2, h3, h4, h5, h6] = false) := hq
  clear hq
  go_enter Try.func38, Try.ntmps38
  go_wp2_with fail
  obtain ⟨u0, hu0⟩ : ∃ u, w.alloc (.cells #[.int .i64 h0, .int .i64 h1, .int .i64 h2, .int .i64 h3, .int .i64 h4, .int .i64 h5, .int .i64 h6] 55) = u := ⟨_, rfl⟩
  have U0 : Hid (Below w.heap.size w u0) := by rw [← hu0]; exact box_below _ _
  have HD : Hid (∀ v, Below u0.heap.size u0 v → HdAt v w.heap.size h0 h1 h2 h3 h4 h5 h6) := by rw [← hu0]; exact fun v hb => hd_box hb
  rw [hu0]
  clear hu0
  refine (rightP_any _ _ _ _ _ _ _ false EQ.out _).mono ?_
  rintro r v0 ⟨rfl, hb⟩
  have B0 : Hid (Below u0.heap.size u0 v0) := hb
  obtain ⟨x0, x1, x2, x3, _, _, _⟩ := HD.out v0 B0.out
  clear hb
  go_wp2
  go_ret2
  exact ⟨rfl, below_then U0.out B0.out⟩

set_option maxHeartbeats 1600000 in
theorem quantP_shape (h0 h1 h2 h3 h4 h5 h6 : Int) (a1 a2 : Option Addr) (c1 c2 : Nat) (ks vs : List (List Int)) (w : World) (ha : Tbl w a1 ks) (hb : Tbl w a2 vs) (lk : ks.length ≤ maxLen) (lv : vs.length ≤ maxLen) (hq : Pg.rightH [h0, h1, h2, h3, h4, h5, h6] = true) (hs : (Pg.shapedB ks h2 h3 && Pg.shapedB vs h2 h3) = false) :
    Calls Try.prog 38 #[.agg #[.int .i64 h0, .int .i64 h1, .int .i64 h2, .int .i64 h3, .int .i64 h4, .int .i64 h5, .int .i64 h6], .slice a1 ks.length c1, .slice a2 vs.length c2] w fun r w' => r = .returned (.tuple #[.pointer none, .int .i64 25]) ∧ Below w.heap.size w w' := by
  have EQ : Hid (Pg.rightH [h0, h1, h2, h3, h4, h5, h6] = true) := hq
  have HA : Hid (Tbl w a1 ks) := ha
  have HB : Hid (Tbl w a2 vs) := hb
  have LK : Hid (ks.length ≤ maxLen) := lk
  have LV : Hid (vs.length ≤ maxLen) := lv
  obtain ⟨p1, ep1⟩ : ∃ p, Pg.shapedB ks h2 h3 = p := ⟨_, rfl⟩
  obtain ⟨p2, ep2⟩ : ∃ p, Pg.shapedB vs h2 h3 = p := ⟨_, rfl⟩
  rw [ep1, ep2] at hs
  have P1 : Hid (Pg.shapedB ks h2 h3 = p1) := ep1
  have P2 : Hid (Pg.shapedB vs h2 h3 = p2) := ep2
  clear ha hb lk lv hq ep1 ep2
  cases p1
  · clear hs
    go_enter Try.func38, Try.ntmps38
    go_wp2_with fail
    obtain ⟨u0, hu0⟩ : ∃ u, w.alloc (.cells #[.int .i64 h0, .int .i64 h1, .int .i64 h2, .int .i64 h3, .int .i64 h4, .int .i64 h5, .int .i64 h6] 55) = u := ⟨_, rfl⟩
    have U0 : Hid (Below w.heap.size w u0) := by rw [← hu0]; exact box_below _ _
    have HD : Hid (∀ v, Below u0.heap.size u0 v → HdAt v w.heap.size h0 h1 h2 h3 h4 h5 h6) := by rw [← hu0]; exact fun v hb => hd_box hb
    rw [hu0]
    clear hu0
    refine (rightP_any _ _ _ _ _ _ _ true EQ.out _).mono ?_
    rintro r v0 ⟨rfl, hb⟩
    have B0 : Hid (Below u0.heap.size u0 v0) := hb
    obtain ⟨x0, x1, x2, x3, _, _, _⟩ := HD.out v0 B0.out
    clear hb
    go_wp2_with fail
    refine (listsOf_any _ _ ks _ _ false _ (HA.out.keep (below_then U0.out B0.out)) LK.out P1.out).mono ?_
    rintro r v ⟨rfl, hw⟩
    cases hw.symm
    clear hw
    go_wp2
    go_ret2
    exact ⟨rfl, below_then U0.out B0.out⟩
  · cases p2
    · clear hs
      go_enter Try.func38, Try.ntmps38
      go_wp2_with fail
      obtain ⟨u0, hu0⟩ : ∃ u, w.alloc (.cells #[.int .i64 h0, .int .i64 h1, .int .i64 h2, .int .i64 h3, .int .i64 h4, .int .i64 h5, .int .i64 h6] 55) = u := ⟨_, rfl⟩
      have U0 : Hid (Below w.heap.size w u0) := by rw [← hu0]; exact box_below _ _
      have HD : Hid (∀ v, Below u0.heap.size u0 v → HdAt v w.heap.size h0 h1 h2 h3 h4 h5 h6) := by rw [← hu0]; exact fun v hb => hd_box hb
      rw [hu0]
      clear hu0
      refine (rightP_any _ _ _ _ _ _ _ true EQ.out _).mono ?_
      rintro r v0 ⟨rfl, hb⟩
      have B0 : Hid (Below u0.heap.size u0 v0) := hb
      obtain ⟨x0, x1, x2, x3, _, _, _⟩ := HD.out v0 B0.out
      clear hb
      go_wp2_with fail
      refine (listsOf_any _ _ ks _ _ true _ (HA.out.keep (below_then U0.out B0.out)) LK.out P1.out).mono ?_
      rintro r v ⟨rfl, hw⟩
      cases hw.symm
      clear hw
      go_wp2_with fail
      refine (listsOf_any _ _ vs _ _ false _ (HB.out.keep (below_then U0.out B0.out)) LV.out P2.out).mono ?_
      rintro r v ⟨rfl, hw⟩
      cases hw.symm
      clear hw
      go_wp2
      go_ret2
      exact ⟨rfl, below_then U0.out B0.out⟩
    · cases hs

set_option maxRecDepth 100000 in
set_option maxHeartbeats 1600000 in
theorem quantP_ok (m0 m1 n0 d0 s0 s1 : Nat) (h4 h5 h6 : Int) (a1 a2 : Option Addr) (c1 c2 : Nat) (ks vs : List (List Int)) (w : World) (st0 : Gp.St m0 s0) (st1 : Gp.St m1 s1)
    (hk : Tbl w a1 ks) (hv : Tbl w a2 vs) (ik : ∀ k, Ls.In32 (Tb.row ks k)) (iv : ∀ k, Ls.In32 (Tb.row vs k)) (hr : Pg.rightH [(m0 : Int), m1, n0, d0, h4, h5, h6] = true) (sk : Pg.shapedB ks n0 d0 = true) (sv : Pg.shapedB vs n0 d0 = true) :
    Calls Try.prog 38 #[.agg #[.int .i64 (m0 : Int), .int .i64 (m1 : Int), .int .i64 (n0 : Int), .int .i64 (d0 : Int), .int .i64 h4, .int .i64 h5, .int .i64 h6], .slice a1 ks.length c1, .slice a2 vs.length c2] w fun r w' => ∃ p, r = .returned (.tuple #[.pointer (some ⟨p, 0, none⟩), .int .i64 0]) ∧ w.heap.size ≤ p ∧ PageAt w' p m0 m1 n0 d0 h4 h5 h6 (Pg.qk s0 d0 ks) (Pg.qv s1 vs) ∧ Below w.heap.size w w' := by
  have HA : Hid (Tbl w a1 ks) := hk
  have HB : Hid (Tbl w a2 vs) := hv
  have IK : Hid (∀ k, Ls.In32 (Tb.row ks k)) := ik
  have IV : Hid (∀ k, Ls.In32 (Tb.row vs k)) := iv
  have EQ : Hid (Pg.rightH [(m0 : Int), m1, n0, d0, h4, h5, h6] = true) := hr
  have P1 : Hid (Pg.shapedB ks (n0 : Int) (d0 : Int) = true) := sk
  have P2 : Hid (Pg.shapedB vs (n0 : Int) (d0 : Int) = true) := sv
  have ST0 : Hid (Gp.St m0 s0) := st0
  have ST1 : Hid (Gp.St m1 s1) := st1
  unfold Pg.shapedB at sk sv
  simp only [decide_eq_true_eq] at sk sv
  obtain ⟨_, _, qc, qd, qe, qf, _⟩ := Pg.rightH_all hr
  have qc' : (1 : Int) ≤ n0 := qc
  have qd' : (n0 : Int) ≤ 16 := qd
  have qe' : (1 : Int) ≤ d0 := qe
  have qf' : (d0 : Int) ≤ 16 := qf
  have b1 : 1 ≤ n0 := by omega
  have b2 : n0 ≤ 16 := by omega
  have b3 : 1 ≤ d0 := by omega
  have b4 : d0 ≤ 16 := by omega
  have NK : Hid (ks.length = n0) := by show _ = _; have := sk.2; omega
  have NV : Hid (vs.length = n0) := by show _ = _; have := sv.2; omega
  have RK : Hid (∀ k, k < ks.length → (Tb.row ks k).length = d0) := fun k hk => by have := sk.1 k hk; omega
  have RV : Hid (∀ k, k < vs.length → (Tb.row vs k).length = d0) := fun k hk => by have := sv.1 k hk; omega
  have lk : ks.length ≤ 256 := by rw [NK.out]; omega
  have lv : vs.length ≤ 256 := by rw [NV.out]; omega
  have LK : Hid (ks.length ≤ maxLen) := by show ks.length ≤ maxLen; unfold maxLen; omega
  have LV : Hid (vs.length ≤ maxLen) := by show vs.length ≤ maxLen; unfold maxLen; omega
  have HP : Hid (Pg.Page [(m0 : Int), m1, n0, d0, h4, h5, h6] (Pg.qk s0 d0 ks) (Pg.qv s1 vs)) := Pg.quant_page (h := [(m0 : Int), m1, n0, d0, h4, h5, h6]) rfl hr rfl rfl st0 st1 ik iv sk.2 sv.2 sv.1
  have XK : Hid (∀ k, Ls.In32 (Tb.row (Pg.cols d0 ks) k)) := fun k => by
    by_cases e : k < d0
    · rw [Pg.row_cols e]; exact Pg.col_in ik k
    · rw [Tb.row_past (by rw [Pg.cols_length]; omega)]; intro i; rw [Ls.nth_nil]; omega
  have CL : Hid (d0 = (Pg.cols d0 ks).length) := (Pg.cols_length _ _).symm
  have CR : Hid (∀ k, k < (Pg.cols d0 ks).length → (Tb.row (Pg.cols d0 ks) k).length = n0) := fun k hk => by
    rw [Pg.cols_length] at hk
    rw [Pg.row_cols hk, Pg.col_length]
    exact NK.out
  clear hk hv ik iv hr sk sv st0 st1 qc qd qe qf qc' qd' qe' qf'
  go_enter Try.func38, Try.ntmps38
  go_wp2_with fail
  obtain ⟨u0, hu0⟩ : ∃ u, w.alloc (.cells #[.int .i64 (m0 : Int), .int .i64 (m1 : Int), .int .i64 (n0 : Int), .int .i64 (d0 : Int), .int .i64 h4, .int .i64 h5, .int .i64 h6] 55) = u := ⟨_, rfl⟩
  have U0 : Hid (Below w.heap.size w u0) := by rw [← hu0]; exact box_below _ _
  have HD : Hid (∀ v, Below u0.heap.size u0 v → HdAt v w.heap.size m0 m1 n0 d0 h4 h5 h6) := by rw [← hu0]; exact fun v hb => hd_box hb
  rw [hu0]
  clear hu0
  refine (rightP_any _ _ _ _ _ _ _ true EQ.out _).mono ?_
  rintro r v0 ⟨rfl, hb⟩
  have B0 : Hid (Below u0.heap.size u0 v0) := hb
  obtain ⟨x0, x1, x2, x3, _, _, _⟩ := HD.out v0 B0.out
  clear hb
  go_wp2_with fail
  refine (listsOf_any _ _ ks _ _ true _ (HA.out.keep (below_then U0.out B0.out)) LK.out P1.out).mono ?_
  rintro r v ⟨rfl, hw⟩
  cases hw.symm
  clear hw
  go_wp2_with fail
  refine (listsOf_any _ _ vs _ _ true _ (HB.out.keep (below_then U0.out B0.out)) LV.out P2.out).mono ?_
  rintro r v ⟨rfl, hw⟩
  cases hw.symm
  clear hw
  go_wp2_with fail
  clear x0 x1 x2 x3
  have KS : Hid (∀ w', Below v0.heap.size v0 w' → HdAt w' w.heap.size m0 m1 n0 d0 h4 h5 h6 ∧ Hid (Below v0.heap.size v0 w')) := fun w' hb => ⟨HD.out w' (below_then B0.out hb), hb⟩
  unfold HdAt at KS
  have BW : Hid (Below w.heap.size w v0) := below_then U0.out B0.out
  go_region_held3 (fun w' => (w'.cell? ⟨w.heap.size, 0, none⟩ = some (.int .i64 (m0 : Int)) ∧ w'.cell? ⟨w.heap.size, 1, none⟩ = some (.int .i64 (m1 : Int)) ∧ w'.cell? ⟨w.heap.size, 2, none⟩ = some (.int .i64 (n0 : Int)) ∧ w'.cell? ⟨w.heap.size, 3, none⟩ = some (.int .i64 (d0 : Int)) ∧ w'.cell? ⟨w.heap.size, 4, none⟩ = some (.int .i64 h4) ∧ w'.cell? ⟨w.heap.size, 5, none⟩ = some (.int .i64 h5) ∧ w'.cell? ⟨w.heap.size, 6, none⟩ = some (.int .i64 h6)) ∧ Hid (Below v0.heap.size v0 w'))
    (first
      | exact KS.out _ ((Below.refl v0.heap.size v0).drew)
      | exact KS.out _ b4'.out
      | exact KS.out _ b3'.out
      | exact KS.out _ b2'.out
      | exact KS.out _ b1'.out
      | assumption)
    (first
      | (go_at_call 50; refine (turned_any _ _ d0 ks _ (HA.out.keep (below_then BW.out ((Below.refl v0.heap.size v0).drew))) lk (by omega) RK.out).mono ?_; rintro e v1 ⟨g1, rfl, hg1, ht1, hb⟩; have b1' : Hid (Below v0.heap.size v0 v1) := ((Below.refl v0.heap.size v0).drew).trans hb; have T1 : Hid (Tbl v1 (some ⟨g1, 0, none⟩) (Pg.cols d0 ks)) := ht1; clear hb hg1 ht1)
      | (go_at_call 49; (with_reducible refine (groupAll_anym (some ⟨g1, 0, none⟩) d0 _ m0 s0 n0 (Pg.cols d0 ks) _ CL.out T1.out (by rw [← CL.out]; omega) ST0.out XK.out CR.out b1 (by omega)).mono ?_); rintro e v2 ⟨g2, rfl, hg2, ht2, hb⟩; have b2' : Hid (Below v0.heap.size v0 v2) := below_then b1'.out hb; have T2 : Hid (Gps v2 (some ⟨g2, 0, none⟩) (Pg.qk s0 d0 ks)) := (by rw [← Pg.qv_cols]; exact ht2); clear hb hg2 ht2)
      | (go_at_call 49; (with_reducible refine (groupAll_anym a2 _ _ m1 s1 d0 vs _ rfl (HB.out.keep (below_then BW.out b2'.out)) lv ST1.out IV.out RV.out b3 (by omega)).mono ?_); rintro e v3 ⟨g3, rfl, hg3, ht3, hb⟩; have b3' : Hid (Below v0.heap.size v0 v3) := below_then b2'.out hb; have T3 : Hid (Gps v3 (some ⟨g2, 0, none⟩) (Pg.qk s0 d0 ks) ∧ Gps v3 (some ⟨g3, 0, none⟩) (Pg.qv s1 vs)) := ⟨T2.out.keep hb, ht3⟩; clear hb hg3 ht3)
      | (go_at_call 48; refine (newP_okm m0 m1 n0 d0 h4 h5 h6 _ _ _ _ _ _ (Pg.qk s0 d0 ks) (Pg.qv s1 vs) _ (Pg.qk_length _ _ _).symm (Pg.qv_length _ _).symm T3.out.1 T3.out.2 HP.out).mono ?_; rintro e v4 ⟨p, rfl, hp, hpa, hb⟩; have b4' : Hid (Below v0.heap.size v0 v4) := below_then b3'.out hb; have PA : Hid (v3.heap.size ≤ p ∧ PageAt v4 p m0 m1 n0 d0 h4 h5 h6 (Pg.qk s0 d0 ks) (Pg.qv s1 vs)) := ⟨hp, hpa⟩; clear hb hp hpa))
  go_wp2
  go_ret2
  exact ⟨p, rfl, Nat.le_trans (below_then BW.out b3'.out).size PA.out.1, PA.out.2, below_then BW.out b4'.out⟩
end Go.Proofs.Ytpifemahakbegaa
/- Contracts of package page: what a page tells. -/
namespace Go.Proofs.Ytpifemahakbegaa
set_option linter.unusedVariables false
open Go.RowKit
attribute [local go_sem ↓] Go.wp_at_zero Go.wp_at_succ

/-- A ROW OF GROUPS AT BLOCK g, the first k of them laid: their codes are rows of the call's own behind it. -/
def URow (w : World) (g : Nat) (t : TypeId) (N : Nat) (l : List (Int × Int × List Int)) (k : Nat) : Prop :=
  ∃ f, w.rowIs g t N f ∧ ∀ i, i < k → ∃ b, f (i * 3) = .int .i32 (Pg.gz (Pg.nth l i)) ∧ f (i * 3 + 1) = .int .u32 (Pg.gs (Pg.nth l i)) ∧ f (i * 3 + 2) = .slice (some ⟨b, 0, none⟩) (Pg.gc (Pg.nth l i)).length (Pg.gc (Pg.nth l i)).length ∧ g < b ∧ w.rowIs b 3 (Pg.gc (Pg.nth l i)).length (fun j => .int .i64 (Ls.nth (Pg.gc (Pg.nth l i)) j))
theorem URow.made (w : World) (zs : Array Value) (N : Nat) (t : TypeId) (l : List (Int × Int × List Int)) : URow (w.alloc (.cells (madeCells zs N) t)) w.heap.size t N l 0 := ⟨_, row_made w zs N t, fun i hi => by omega⟩
theorem URow.keep {w w' : World} {g : Nat} {t : TypeId} {N : Nat} {l : List (Int × Int × List Int)} {k : Nat} (h : URow w g t N l k) (hb : Below w.heap.size w w') : URow w' g t N l k := by
  obtain ⟨f, hr, hc⟩ := h
  refine ⟨f, row_keep hr hb, fun i hi => ?_⟩
  obtain ⟨b, h0, h1, h2, h3, h4⟩ := hc i hi
  exact ⟨b, h0, h1, h2, h3, row_keep h4 hb⟩
theorem URow.lt {w : World} {g : Nat} {t : TypeId} {N : Nat} {l : List (Int × Int × List Int)} {k : Nat} (h : URow w g t N l k) : g < w.heap.size := by
  obtain ⟨f, hr, _⟩ := h
  exact hr.lt
theorem URow.room {w : World} {g : Nat} {t : TypeId} {N : Nat} {l : List (Int × Int × List Int)} {k : Nat} (h : URow w g t N l k) : ∃ f, w.rowIs g t N f := by
  obtain ⟨f, hr, _⟩ := h
  exact ⟨f, hr⟩
theorem URow.step {w : World} {g : Nat} {t : TypeId} {N : Nat} {l : List (Int × Int × List Int)} {k : Nat} (h : URow w g t N l k) {b n : Nat} {z sc : Int} (ez : Pg.gz (Pg.nth l k) = z) (es : Pg.gs (Pg.nth l k) = sc) (en : (Pg.gc (Pg.nth l k)).length = n) (hl : w.rowIs b 3 n (fun j => .int .i64 (Ls.nth (Pg.gc (Pg.nth l k)) j))) (hx : g < b) :
    URow (((w.setCell ⟨g, k * 3, none⟩ (.int .i32 z)).setCell ⟨g, k * 3 + 1, none⟩ (.int .u32 sc)).setCell ⟨g, k * 3 + 2, none⟩ (.slice (some ⟨b, 0, none⟩) n n)) g t N l (k + 1) := by
  obtain ⟨f, hr, hc⟩ := h
  refine ⟨_, ((hr.set (k * 3) _).set (k * 3 + 1) _).set (k * 3 + 2) _, fun i hi => ?_⟩
  by_cases e : i = k
  · subst e
    refine ⟨b, ?_, ?_, ?_, hx, ?_⟩
    · rw [if_neg (by omega), if_neg (by omega), if_pos rfl, ez]
    · rw [if_neg (by omega), if_pos rfl, es]
    · rw [if_pos rfl, en]
    · rw [en]
      exact ((hl.setOther (by show b ≠ g; omega) _).setOther (by show b ≠ g; omega) _).setOther (by show b ≠ g; omega) _
  · obtain ⟨b', h0, h1, h2, h3, h4⟩ := hc i (by omega)
    refine ⟨b', ?_, ?_, ?_, h3, ?_⟩
    · rw [if_neg (by omega), if_neg (by omega), if_neg (by omega), h0]
    · rw [if_neg (by omega), if_neg (by omega), if_neg (by omega), h1]
    · rw [if_neg (by omega), if_neg (by omega), if_neg (by omega), h2]
    · exact ((h4.setOther (by show b' ≠ g; omega) _).setOther (by show b' ≠ g; omega) _).setOther (by show b' ≠ g; omega) _
theorem URow.gps {w : World} {g : Nat} {t : TypeId} {N : Nat} {l : List (Int × Int × List Int)} (h : URow w g t N l l.length) (hN : N = l.length * 3) : Gps w (some ⟨g, 0, none⟩) l := by
  obtain ⟨f, hr, hc⟩ := h
  intro i hi
  obtain ⟨b, h0, h1, h2, _, h3⟩ := hc i hi
  refine ⟨g, 0, some ⟨b, 0, none⟩, (Pg.gc (Pg.nth l i)).length, rfl, ?_, ?_, ?_, lst_of_row h3 (fun j hj => rfl)⟩
  · rw [Nat.zero_add, hr.cell (by omega), h0]
  · rw [Nat.zero_add, hr.cell (by omega), h1]
  · rw [Nat.zero_add, hr.cell (by omega), h2]

/-- The nine cells of a page. -/
theorem PageAt.cells {w : World} {p m0 m1 n0 d0 : Nat} {h4 h5 h6 : Int} {ks vs : List (Int × Int × List Int)} (h : PageAt w p m0 m1 n0 d0 h4 h5 h6 ks vs) : ∃ g1 g2, HdAt w p m0 m1 n0 d0 h4 h5 h6 ∧ w.cell? ⟨p, 7, none⟩ = some (.slice (some ⟨g1, 0, none⟩) d0 d0) ∧ w.cell? ⟨p, 8, none⟩ = some (.slice (some ⟨g2, 0, none⟩) n0 n0) ∧ Pks w g1 m0 ks ∧ Pks w g2 m1 vs := by
  obtain ⟨g1, g2, hr, hk, hv, _⟩ := h
  exact ⟨g1, g2, ⟨hr.cell (i := 0) (by decide), hr.cell (i := 1) (by decide), hr.cell (i := 2) (by decide), hr.cell (i := 3) (by decide), hr.cell (i := 4) (by decide), hr.cell (i := 5) (by decide), hr.cell (i := 6) (by decide)⟩, hr.cell (i := 7) (by decide), hr.cell (i := 8) (by decide), hk, hv⟩
theorem PageAt.page {w : World} {p m0 m1 n0 d0 : Nat} {h4 h5 h6 : Int} {ks vs : List (Int × Int × List Int)} (h : PageAt w p m0 m1 n0 d0 h4 h5 h6 ks vs) : Pg.Page [(m0 : Int), m1, n0, d0, h4, h5, h6] ks vs := by
  obtain ⟨g1, g2, _, _, _, hp⟩ := h
  exact hp
/-- A page's own numbers. -/
theorem Pg.page_nums {m0 m1 n0 d0 : Nat} {h4 h5 h6 : Int} {ks vs : List (Int × Int × List Int)} (h : Pg.Page [(m0 : Int), m1, n0, d0, h4, h5, h6] ks vs) : Pk.Ok m0 ∧ Pk.Ok m1 ∧ 1 ≤ n0 ∧ n0 ≤ 16 ∧ 1 ≤ d0 ∧ d0 ≤ 16 ∧ ks.length = d0 ∧ vs.length = n0 ∧ Pg.AllFit m0 n0 ks ∧ Pg.AllFit m1 d0 vs := by
  obtain ⟨_, hr, lk, lv, fk, fv, _⟩ := h
  obtain ⟨a, b, c, d, e, f, _⟩ := Pg.rightH_all hr
  have a' : (m0 : Int) = 2 ∨ (m0 : Int) = 4 ∨ (m0 : Int) = 8 := a
  have b' : (m1 : Int) = 2 ∨ (m1 : Int) = 4 ∨ (m1 : Int) = 8 := b
  have c' : (1 : Int) ≤ n0 := c
  have d' : (n0 : Int) ≤ 16 := d
  have e' : (1 : Int) ≤ d0 := e
  have f' : (d0 : Int) ≤ 16 := f
  have x0 : m0 = 2 ∨ m0 = 4 ∨ m0 = 8 := by omega
  have x1 : m1 = 2 ∨ m1 = 4 ∨ m1 = 8 := by omega
  exact ⟨x0, x1, by omega, by omega, by omega, by omega, lk, lv, fk, fv⟩

theorem headP_any (p m0 m1 n0 d0 : Nat) (h4 h5 h6 : Int) (ks vs : List (Int × Int × List Int)) (w : World) (h : PageAt w p m0 m1 n0 d0 h4 h5 h6 ks vs) :
    Calls Try.prog 23 #[.pointer (some ⟨p, 0, none⟩)] w fun e w' => e = .returned (.agg #[.int .i64 (m0 : Int), .int .i64 (m1 : Int), .int .i64 (n0 : Int), .int .i64 (d0 : Int), .int .i64 h4, .int .i64 h5, .int .i64 h6]) ∧ Below w.heap.size w w' := by
  obtain ⟨g1, g2, ⟨x0, x1, x2, x3, x4, x5, x6⟩, _⟩ := h.cells
  have hlt := h.lt
  clear h
  go_enter Try.func23, Try.ntmps23
  go_wp2
  refine bodyPost_ret (v := .agg #[.int .i64 (m0 : Int), .int .i64 (m1 : Int), .int .i64 (n0 : Int), .int .i64 (d0 : Int), .int .i64 h4, .int .i64 h5, .int .i64 h6]) (by simp [results, Try.results23, go_sem]) rfl ⟨rfl, ?_⟩
  exact box_below _ _

theorem Pg.code_bd {b : Nat} {cd : List Int} (h : Pk.Ok b) (hc : Pk.Cds b cd) (i : Nat) : 0 ≤ Ls.nth cd i ∧ Ls.nth cd i ≤ 255 := by
  have := hc i
  have h8 : 2 ^ b ≤ 256 := by rcases h with rfl | rfl | rfl <;> decide
  omega

/-- What a page means by a key, by a value, at a place. -/
def Pg.keyAt (ks : List (Int × Int × List Int)) (t i : Nat) : Int := Gp.mean (Pg.gz (Pg.nth ks i)) (Pg.gs (Pg.nth ks i)) (Ls.nth (Pg.gc (Pg.nth ks i)) t)
def Pg.valAt (vs : List (Int × Int × List Int)) (t i : Nat) : Int := Gp.mean (Pg.gz (Pg.nth vs t)) (Pg.gs (Pg.nth vs t)) (Ls.nth (Pg.gc (Pg.nth vs t)) i)

end Go.Proofs.Ytpifemahakbegaa
/- Contracts of package page: all keys, all values, token by token. -/
namespace Go.Proofs.Ytpifemahakbegaa
set_option linter.unusedVariables false
open Go.RowKit
attribute [local go_sem ↓] Go.wp_at_zero Go.wp_at_succ

/-- A table by places. -/
def Pg.tab (n d : Nat) (F : Nat → Nat → Int) : List (List Int) := (List.range n).map fun t => Ls.gen d (F t)
theorem Pg.tab_length (n d : Nat) (F : Nat → Nat → Int) : (Pg.tab n d F).length = n := by simp [Pg.tab]
theorem Pg.row_tab {n d t : Nat} {F : Nat → Nat → Int} (h : t < n) : Tb.row (Pg.tab n d F) t = Ls.gen d (F t) := Tb.row_map_range _ h

theorem Pg.tab_tbl {w : World} {g n d B : Nat} {F : Nat → Nat → Int} (h : TRow w g 83 n (Pg.tab n d F) n B) (hd : d ≤ 256) : Tbl w (some ⟨g, 0, none⟩) (Pg.tab n d F) := by
  refine TRow.tbl (N := n) (t := 83) (B := B) (by rw [Pg.tab_length]; exact h) (Pg.tab_length _ _ _).symm (fun i hi => ?_)
  rw [Pg.tab_length] at hi
  rw [Pg.row_tab hi, Ls.gen_length]
  unfold maxLen
  omega
end Go.Proofs.Ytpifemahakbegaa
/- Contracts of package page: a head's bytes, a group's bytes. -/
namespace Go.Proofs.Ytpifemahakbegaa
set_option linter.unusedVariables false
open Go.RowKit
attribute [local go_sem ↓] Go.wp_at_zero Go.wp_at_succ

/-- A number with a sign in eight bytes has the same four lowest ones. -/
theorem Pg.word4_wide {z : Int} {v : Nat} (hv : z % 18446744073709551616 = (v : Int)) (h0 : -2147483648 ≤ z) (h1 : z ≤ 2147483647) : Sl.be 4 v = Pg.word4 z := by
  unfold Pg.word4
  rw [← Pg.be_mod 4 v, ← Pg.be_mod 4 (z + 4294967296).toNat, Sl.four]
  congr 1
  omega

end Go.Proofs.Ytpifemahakbegaa
/- Contracts of package page: a page's bytes. -/
namespace Go.Proofs.Ytpifemahakbegaa
set_option linter.unusedVariables false
open Go.RowKit
attribute [local go_sem ↓] Go.wp_at_zero Go.wp_at_succ

/-- BYTES THAT ARE APPENDED TO: a row of the call's own, or a slice without room. -/
def Acc (w : World) (base : Nat) (e : TypeId) (v : Value) (n : Nat) (l : List Int) : Prop :=
  w.ownsRow base e 1 v n (l.map (Value.int .u8)) ∨ ∃ H, v = .slice (some ⟨H, 0, none⟩) n n ∧ Lst .u8 w (some ⟨H, 0, none⟩) l
theorem Acc.keep {w w' : World} {base : Nat} {e : TypeId} {v : Value} {n : Nat} {l : List Int} (h : Acc w base e v n l) (hb : Below w.heap.size w w') : Acc w' base e v n l := by
  rcases h with h | ⟨H, h1, h2⟩
  · exact .inl (own_below h hb)
  · exact .inr ⟨H, h1, h2.keep hb⟩
theorem Acc.slice {w : World} {base : Nat} {e : TypeId} {v : Value} {n : Nat} {l : List Int} (h : Acc w base e v n l) (hn : l.length = n) : ∃ a c, v = .slice a n c ∧ Lst .u8 w a l := by
  rcases h with h | ⟨H, h1, h2⟩
  · exact lst_of_ownm h hn.symm
  · exact ⟨_, _, h1, h2⟩
theorem own_mono {w : World} {base base' : Nat} {t : TypeId} {v : Value} {n : Nat} {xs : List Value} (h : w.ownsRow base t 1 v n xs) (hb : base' ≤ base) : w.ownsRow base' t 1 v n xs := by
  refine ⟨h.1, ?_⟩
  rcases h.2 with h0 | ⟨g, cap, cur, e, h1, h2, h3⟩
  · exact Or.inl h0
  · exact Or.inr ⟨g, cap, cur, e, by omega, h2, h3⟩
theorem wpList_append_acc {P : Program} {w : World} {ops : Array Oper} {rest : List Oper} {o : Oper} {a : Act} {Q : Exit → Act → World → Prop} (hgd : o.guard = none) (s x : Operand) (t : TypeId)
    (ho : o.op = .call { callee := .builtin .append, args := #[s, x], argTypes := #[t, t] })
    (base : Nat) (e : TypeId) (ht : P.underlying t = some (.slice e)) (hinfo : (P.info? e).map (fun i => (i.zero, i.size, i.bytes)) = some (some (.int .u8 0), 1, 1))
    (v : Value) (n : Nat) (l0 : List Int) (hs : a.eval s = v) (hacc : Acc w base e v n l0) (hn0 : l0.length = n)
    (g m c : Nat) (l : List Int) (hm : m = l.length) (hx : a.eval x = .slice (some ⟨g, 0, none⟩) m c) (hL : Lst .u8 w (some ⟨g, 0, none⟩) l) (hpos : 0 < m) (hbd : n + m ≤ 100000) (hbase : base ≤ w.heap.size)
    (h : ∀ v' w', w'.ownsRow base e 1 v' (n + m) ((l0 ++ l).map (Value.int .u8)) → Below base w w' → wpList P ops Q rest (a.put o.dst v') w') : wpList P ops Q (o :: rest) a w := by
  subst hm
  rw [List.map_append] at h
  rcases hacc with hown | ⟨H, rfl, h0⟩
  · refine wpList_append_lst hgd s x t ho base e .u8 1 ht hinfo v n _ hs hown _ l c hx hL (fun e => by cases e) (by unfold maxLen; omega) (by omega) hbase (fun v' w' h1 h2 => h v' w' h1 ?_)
    exact (Below.refl base w).grown h2 hbase (fun k hk => (hown.lt k hk).1)
  · obtain ⟨i, hi, hz0, hz1, hz2⟩ := info_parts hinfo
    have cells : ∀ (G : Nat) (q : List Int), Lst .u8 w (some ⟨G, 0, none⟩) q → ∀ (j : Nat) (u : Value), (q.map (Value.int .u8))[j]? = some u → w.cell? ((⟨G, 0, none⟩ : Addr).add j) = some u := fun G q hq j u hu => by
      have hj : j < q.length := by
        have := (List.getElem?_eq_some_iff.1 hu).1
        simpa using this
      have := hq.cell0 hj
      rw [Addr.add_lit, Nat.zero_add, this]
      simpa [Ls.nth, hj] using hu
    refine wpList_append_grows w hgd s x t ho e i (.int .u8 0) 1 1 ht hi hz0 hz1 hz2 rfl (by omega) (some ⟨H, 0, none⟩) n n (l0.map (Value.int .u8)) hs (fun e => by cases e) (by simp [hn0]) (fun b hb j u hu => by cases hb; exact cells H l0 h0 j u hu) ⟨g, 0, none⟩ l.length c (l.map (Value.int .u8)) hx (by simp) (cells g l hL) (ints_oneCell .u8 l) (by omega) (by unfold maxLen; omega) (by omega) (fun v' w' h1 h2 => h v' w' (own_mono h1 hbase) ?_)
    exact (Below.refl base w).grown h2 hbase (fun k hk => by cases hk)

theorem Try.infoU8p : (Try.prog.info? 5).map (fun i => (i.zero, i.size, i.bytes)) = some (some (.int .u8 0), 1, 1) := by kernel_rfl
theorem Pg.be_two {x : Nat} (h : x < 65536) : Sl.be 2 x = [((x / 256 : Nat) : Int), ((x % 256 : Nat) : Int)] := by
  apply Ls.ext_nth (by rw [Sl.be_length]; rfl)
  intro i hi
  rw [Sl.be_length] at hi
  rw [Sl.nth_be hi]
  match i, hi with
  | 0, _ => show ((x / 256 ^ 1 % 256 : Nat) : Int) = ((x / 256 : Nat) : Int); congr 1; omega
  | 1, _ => show ((x / 256 ^ 0 % 256 : Nat) : Int) = ((x % 256 : Nat) : Int); congr 1; omega

end Go.Proofs.Ytpifemahakbegaa
