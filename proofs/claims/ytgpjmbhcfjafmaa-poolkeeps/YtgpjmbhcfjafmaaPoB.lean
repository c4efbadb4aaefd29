/- What one call of layer 10's law leaves: its three boxes, the document's lists. -/
import Derived.Test.YtgpjmbhcfjafmaaPoA
import Derived.Test.YtgpjmbhcfjafmaaRgTake
import Derived.Laws.OwnMore
import Derived.Deep.SlicePairs
import Derived.ChangeArms
namespace Go.Proofs.Ytgpjmbhcfjafmaa
set_option linter.unusedVariables false
set_option linter.unusedSimpArgs false
open Go.RowKit

/-- The three boxes of a step: the document's pool, the call, the answer. -/
def Bx (v : World) (H : Nat) (s1 s2 : Value) (kd N : Int) : Prop :=
  v.rowIs H 30 2 (rfc s1 s2) ∧ v.rowIs (H + 1) 33 2 (rfc (.int .i64 kd) (.int .i64 N)) ∧ v.rowIs (H + 2) 30 2 (rfc (.slice none 0 0) (.slice none 0 0))
theorem bx_new (w : World) (s1 s2 : Value) (kd N : Int) : Bx (((w.alloc (.cells #[s1, s2] 30)).alloc (.cells #[.int .i64 kd, .int .i64 N] 33)).alloc (.cells #[.slice none 0 0, .slice none 0 0] 30)) w.heap.size s1 s2 kd N := by
  refine ⟨((rfc_alloc w s1 s2 _).alloc _).alloc _, ?_, ?_⟩
  · have := (rfc_alloc (w.alloc (.cells #[s1, s2] 30)) (.int .i64 kd) (.int .i64 N) 33).alloc (.cells #[.slice none 0 0, .slice none 0 0] 30)
    simpa using this
  · have := rfc_alloc ((w.alloc (.cells #[s1, s2] 30)).alloc (.cells #[.int .i64 kd, .int .i64 N] 33)) (.slice none 0 0) (.slice none 0 0) 30
    simpa using this
theorem three_below (w : World) (o1 o2 o3 : Obj) : Below w.heap.size w (((w.alloc o1).alloc o2).alloc o3) := (two_boxes _ _ _).alloc (by simp; omega) _
theorem three_size (w : World) (o1 o2 o3 : Obj) : (((w.alloc o1).alloc o2).alloc o3).heap.size = w.heap.size + 3 := by simp
theorem Bx.keep {v v' : World} {H : Nat} {s1 s2 : Value} {kd N : Int} (h : Bx v H s1 s2 kd N) (hk : ∀ j, H ≤ j → j < H + 3 → v'.heap[j]? = v.heap[j]?) : Bx v' H s1 s2 kd N :=
  ⟨h.1.of_block (hk _ (by omega) (by omega)), h.2.1.of_block (hk _ (by omega) (by omega)), h.2.2.of_block (hk _ (by omega) (by omega))⟩
theorem Bx.below {v v' : World} {H : Nat} {s1 s2 : Value} {kd N : Int} (h : Bx v H s1 s2 kd N) (hb : Below v.heap.size v v') : Bx v' H s1 s2 kd N :=
  ⟨h.1.of_block (hb.block _ h.1.lt), h.2.1.of_block (hb.block _ h.2.1.lt), h.2.2.of_block (hb.block _ h.2.2.lt)⟩
theorem Bx.but {g b : Nat} {v v' : World} {H : Nat} {s1 s2 : Value} {kd N : Int} (h : Bx v H s1 s2 kd N) (hb : But2 g b v v') (hg : g < H) (hb2 : b < H) : Bx v' H s1 s2 kd N :=
  ⟨h.1.of_block (hb.2 _ h.1.lt (by omega) (by omega)), h.2.1.of_block (hb.2 _ h.2.1.lt (by omega) (by omega)), h.2.2.of_block (hb.2 _ h.2.2.lt (by omega) (by omega))⟩
theorem Bx.size {v : World} {H : Nat} {s1 s2 : Value} {kd N : Int} (h : Bx v H s1 s2 kd N) : H + 3 ≤ v.heap.size := h.2.2.lt
theorem Bx.cells {v : World} {H : Nat} {s1 s2 : Value} {kd N : Int} (h : Bx v H s1 s2 kd N) :
    (v.cell? ⟨H, 0, none⟩ = some s1 ∧ v.cell? ⟨H, 1, none⟩ = some s2) ∧ (v.cell? ⟨H + 1, 0, none⟩ = some (.int .i64 kd) ∧ v.cell? ⟨H + 1, 1, none⟩ = some (.int .i64 N)) ∧ (v.cell? ⟨H + 2, 0, none⟩ = some (.slice none 0 0) ∧ v.cell? ⟨H + 2, 1, none⟩ = some (.slice none 0 0)) :=
  ⟨⟨h.1.cell (show 0 < 2 by decide), h.1.cell (show 1 < 2 by decide)⟩, ⟨h.2.1.cell (show 0 < 2 by decide), h.2.1.cell (show 1 < 2 by decide)⟩, ⟨h.2.2.cell (show 0 < 2 by decide), h.2.2.cell (show 1 < 2 by decide)⟩⟩
theorem Bx.open {v : World} {H : Nat} {s1 s2 : Value} {kd N : Int} (h : Bx v H s1 s2 kd N) :
    (v.frozen? ⟨H, 0, none⟩ = false ∧ v.frozen? ⟨H, 1, none⟩ = false) ∧ (v.frozen? ⟨H + 2, 0, none⟩ = false ∧ v.frozen? ⟨H + 2, 1, none⟩ = false) := ⟨⟨h.1.frozen 0, h.1.frozen 1⟩, ⟨h.2.2.frozen 0, h.2.2.frozen 1⟩⟩
theorem Bx.put {v : World} {H : Nat} {s1 s2 : Value} {kd N : Int} (h : Bx v H s1 s2 kd N) (t1 t2 : Value) : Bx ((v.setCell ⟨H, 0, none⟩ t1).setCell ⟨H, 1, none⟩ t2) H t1 t2 kd N := by
  have e : ∀ j, ¬ j = H → ((v.setCell ⟨H, 0, none⟩ t1).setCell ⟨H, 1, none⟩ t2).heap[j]? = v.heap[j]? := fun j n => by
    rw [Below.heap_setCell _ _ _ _ (show j ≠ H from n), Below.heap_setCell _ _ _ _ (show j ≠ H from n)]
  exact ⟨(((h.1.set 0 t1).congr (fun j hj => rfc_set0 _ _ _ j hj)).set 1 t2).congr (fun j hj => rfc_set1 _ _ _ j hj), h.2.1.of_block (e _ (by omega)), h.2.2.of_block (e _ (by omega))⟩
/-- The document's pool, whose lists lie off the pool's own blocks. -/
def RefAt (w : World) (g b n : Nat) (R M : List Int) (s1 s2 : Value) : Prop :=
  ∃ a1 c1 a2 c2, s1 = .slice a1 n c1 ∧ s2 = .slice a2 n c2 ∧ Lst .i64 w a1 R ∧ Lst .i64 w a2 M ∧ (a1 = none → c1 = 0) ∧ (a2 = none → c2 = 0) ∧ Off g b a1 ∧ Off g b a2
theorem RefAt.keep {w w' : World} {g b n : Nat} {R M : List Int} {s1 s2 : Value} (h : RefAt w g b n R M s1 s2) (hb : Below w.heap.size w w') : RefAt w' g b n R M s1 s2 := by
  obtain ⟨a1, c1, a2, c2, e1, e2, h1, h2, h3⟩ := h
  exact ⟨a1, c1, a2, c2, e1, e2, h1.keep hb, h2.keep hb, h3⟩
theorem RefAt.but {w w' : World} {g b n : Nat} {R M : List Int} {s1 s2 : Value} (h : RefAt w g b n R M s1 s2) (hb : But2 g b w w') : RefAt w' g b n R M s1 s2 := by
  obtain ⟨a1, c1, a2, c2, e1, e2, h1, h2, h3, h4, h5, h6⟩ := h
  exact ⟨a1, c1, a2, c2, e1, e2, hb.lst h1 h5, hb.lst h2 h6, h3, h4, h5, h6⟩
theorem off_of {g b B : Nat} {a : Option Addr} (h : ∀ y, a = some y → B ≤ y.block) (hg : g < B) (hb : b < B) : Off g b a := fun x e => by have := h x e; omega
/-- What was made behind the boxes stands. -/
def Up (B : Nat) (w v : World) : Prop := w.heap.size ≤ v.heap.size ∧ ∀ j, B ≤ j → j < w.heap.size → v.heap[j]? = w.heap[j]?
theorem Up.refl (B : Nat) (w : World) : Up B w w := ⟨Nat.le_refl _, fun _ _ _ => rfl⟩
theorem Up.trans {B : Nat} {w v u : World} (h : Up B w v) (k : Up B v u) : Up B w u := ⟨Nat.le_trans h.1 k.1, fun j h1 h2 => by rw [k.2 j h1 (Nat.lt_of_lt_of_le h2 h.1), h.2 j h1 h2]⟩
theorem Up.below {B : Nat} {w v u : World} (h : Up B w v) (k : Below v.heap.size v u) : Up B w u := h.trans ⟨k.size, fun j _ h2 => k.block j h2⟩
theorem Up.but {B g b : Nat} {w v u : World} (h : Up B w v) (k : But2 g b v u) (hg : g < B) (hb : b < B) : Up B w u := h.trans ⟨k.size, fun j h1 h2 => k.2 j h2 (by omega) (by omega)⟩
theorem Up.set {B : Nat} {w v : World} (h : Up B w v) {p : Addr} (hp : p.block < B) (y : Value) : Up B w (v.setCell p y) := h.trans ⟨by simp, fun j h1 _ => by rw [Below.heap_setCell _ _ _ _ (show j ≠ p.block by omega)]⟩
theorem Up.lst {B : Nat} {w v : World} (h : Up B w v) {k : IntKind} {a : Option Addr} {l : List Int} (hl : Lst k w a l) (hp : ∀ y, a = some y → B ≤ y.block) : Lst k v a l := fun i hi => by
  obtain ⟨c, o, e, hc⟩ := hl i hi
  refine ⟨c, o, e, ?_⟩
  rw [World.cell?_of_block (w := w) (h.2 c (hp _ e) (World.block_lt_of_cell? w _ hc))]
  exact hc
/-- A store into a box of two cells that isn't the pool's own. -/
theorem PoolAt.box {w : World} {g b n : Nat} {R M : List Int} (h : PoolAt w g b n R M) {H : Nat} {t : TypeId} {f : Nat → Value} (hr : w.rowIs H t 2 f) (h1 : ¬ g = H) (h2 : ¬ b = H) (o : Nat) (y : Value) : PoolAt (w.setCell ⟨H, o, none⟩ y) g b n R M := by
  obtain ⟨P, r1, r2, r3, r4, r5, r6, r7, r8⟩ := h
  refine ⟨P, r1.of_block (Below.heap_setCell _ _ _ _ (show g ≠ H from h1)), r2.of_block (Below.heap_setCell _ _ _ _ (show b ≠ H from h2)), r3, r4, r5, r6, r7, fun i hi hr' => ?_⟩
  obtain ⟨q, e, n1, n2, hq⟩ := r8 i hi hr'
  refine ⟨q, e, n1, n2, hq.of_block (Below.heap_setCell _ _ _ _ (show q ≠ H from fun eq => ?_))⟩
  obtain ⟨fq, _, _, _, _, _, _, hrow, _⟩ := hq
  subst eq
  obtain ⟨c1, e1, z1, _⟩ := hr
  obtain ⟨c2, e2, z2, _⟩ := hrow
  rw [e1] at e2
  cases e2
  omega
/-- Two stores into the answer's box. -/
theorem Bx.answer {v : World} {H : Nat} {s1 s2 : Value} {kd N : Int} (h : Bx v H s1 s2 kd N) {g b n : Nat} {R M : List Int} (hp : PoolAt v g b n R M) (hg : g < H) (hb : b < H) (t1 t2 : Value) : PoolAt ((v.setCell ⟨H + 2, 0, none⟩ t1).setCell ⟨H + 2, 1, none⟩ t2) g b n R M :=
  (hp.box h.2.2 (by omega) (by omega) 0 t1).box (h.2.2.set 0 t1) (by omega) (by omega) 1 t2
theorem Bx.keepP {v : World} {H : Nat} {s1 s2 : Value} {kd N : Int} (h : Bx v H s1 s2 kd N) {g b n : Nat} {R M : List Int} (hp : PoolAt v g b n R M) (hg : g < H) (hb : b < H) (t1 t2 : Value) : PoolAt ((v.setCell ⟨H, 0, none⟩ t1).setCell ⟨H, 1, none⟩ t2) g b n R M :=
  (hp.box h.1 (by omega) (by omega) 0 t1).box (h.1.set 0 t1) (by omega) (by omega) 1 t2
theorem But2.set {g b : Nat} {w v : World} (h : But2 g b w v) {p : Addr} (hp : w.heap.size ≤ p.block) (hg : g < w.heap.size) (y : Value) : But2 g b w (v.setCell p y) :=
  ⟨h.1.setCell (by omega) y, fun j hj h1 h2 => by rw [Below.heap_setCell _ _ _ _ (show j ≠ p.block by omega), h.2 j hj h1 h2]⟩

/-- The first two boxes stand. -/
def Kp2 (H : Nat) (v v' : World) : Prop := v'.heap[H]? = v.heap[H]? ∧ v'.heap[H + 1]? = v.heap[H + 1]?
theorem Kp2.drew (H : Nat) (v : World) : Kp2 H v v.drew := ⟨rfl, rfl⟩
theorem Kp2.set {H : Nat} {v v' : World} (h : Kp2 H v v') (y0 y1 : Value) : Kp2 H v ((v'.setCell ⟨H + 2, 0, none⟩ y0).setCell ⟨H + 2, 1, none⟩ y1) :=
  ⟨by rw [Below.heap_setCell _ _ _ _ (show H ≠ H + 2 by omega), Below.heap_setCell _ _ _ _ (show H ≠ H + 2 by omega)]; exact h.1, by rw [Below.heap_setCell _ _ _ _ (show H + 1 ≠ H + 2 by omega), Below.heap_setCell _ _ _ _ (show H + 1 ≠ H + 2 by omega)]; exact h.2⟩
theorem Kp2.but {H g b : Nat} {v v' u : World} (h : Kp2 H v v') (hb : But2 g b v' u) (hg : g < H) (hb2 : b < H) (hs : H + 3 ≤ v'.heap.size) : Kp2 H v u :=
  ⟨by rw [hb.2 _ (by omega) (by omega) (by omega)]; exact h.1, by rw [hb.2 _ (by omega) (by omega) (by omega)]; exact h.2⟩
theorem Bx.kp {v v' : World} {H : Nat} {s1 s2 : Value} {kd N : Int} (h : Bx v H s1 s2 kd N) (k : Kp2 H v v') : (v'.cell? ⟨H, 0, none⟩ = some s1 ∧ v'.cell? ⟨H, 1, none⟩ = some s2) ∧ v'.cell? ⟨H + 1, 1, none⟩ = some (.int .i64 N) :=
  ⟨⟨(h.1.of_block k.1).cell (show 0 < 2 by decide), (h.1.of_block k.1).cell (show 1 < 2 by decide)⟩, (h.2.1.of_block k.2).cell (show 1 < 2 by decide)⟩
theorem Bx.drew {v : World} {H : Nat} {s1 s2 : Value} {kd N : Int} (h : Bx v H s1 s2 kd N) : Bx v.drew H s1 s2 kd N := h.below ((Below.refl _ _).drew)
end Go.Proofs.Ytgpjmbhcfjafmaa
/- One call of layer 10's law, each kind and each way (the document goes along). -/
namespace Go.Proofs.Ytgpjmbhcfjafmaa
set_option linter.unusedVariables false
set_option linter.unusedSimpArgs false
open Go.RowKit

set_option maxRecDepth 100000 in
set_option maxHeartbeats 3200000 in
theorem stepA_put_ok (g b n k : Nat) (N : Int) (s1 s2 : Value) (R M : List Int) (w : World) (hp : PoolAt w g b n R M) (hr : RefAt w g b n R M s1 s2) (hk : k < n) (h0 : Ls.nth R k = 0) (hl : ∀ i, i < k → ¬ Ls.nth R i = 0) :
    Calls Try.prog 10 #[.pointer (some ⟨g, 0, none⟩), .agg #[s1, s2], .agg #[.int .i64 1, .int .i64 N]] w fun e w' => ∃ t1 t2, e = .returned (.tuple #[.agg #[t1, t2], .bool true]) ∧ PoolAt w' g b n (R.set k 1) (M.set k (Po.mk N)) ∧ RefAt w' g b n (R.set k 1) (M.set k (Po.mk N)) t1 t2 ∧ But2 g b w w' := by
  obtain ⟨a1, c1, a2, c2, rfl, rfl, hL1, hL2, hC1, hC2, hO1, hO2⟩ := hr
  obtain ⟨nbg, lR, lM, hn, hnn⟩ := hp.nums
  obtain ⟨lg, lb⟩ := hp.lt
  have HP : Hid (PoolAt w g b n R M) := hp
  have L1 : Hid (Lst .i64 w a1 R) := hL1
  have L2 : Hid (Lst .i64 w a2 M) := hL2
  have C12 : Hid ((a1 = none → c1 = 0) ∧ (a2 = none → c2 = 0)) := ⟨hC1, hC2⟩
  have O12 : Hid (Off g b a1 ∧ Off g b a2) := ⟨hO1, hO2⟩
  have LR : Hid (R.length = n ∧ M.length = n) := ⟨lR, lM⟩
  have H0 : Hid (Ls.nth R k = 0) := h0
  have HL : Hid (∀ i, i < k → ¬ Ls.nth R i = 0) := hl
  have hbm := bits_mark N
  obtain ⟨m, em⟩ : ∃ m, Po.mk N = m := ⟨_, rfl⟩
  have EM : Hid (Po.mk N = m) := em
  rw [em] at hbm ⊢
  clear hp hL1 hL2 hC1 hC2 hO1 hO2 lR lM hnn h0 hl em
  go_enter Try.func10, Try.ntmps10
  go_wp2_with fail
  obtain ⟨u, hu⟩ : ∃ u, ((w.alloc (.cells #[.slice a1 n c1, .slice a2 n c2] 30)).alloc (.cells #[.int .i64 1, .int .i64 N] 33)).alloc (.cells #[.slice none 0 0, .slice none 0 0] 30) = u := ⟨_, rfl⟩
  have UB : Hid (Below w.heap.size w u) := by rw [← hu]; exact three_below _ _ _ _
  have US : u.heap.size = w.heap.size + 3 := by rw [← hu]; exact three_size _ _ _ _
  have UX : Hid (Bx u w.heap.size (.slice a1 n c1) (.slice a2 n c2) 1 N) := by rw [← hu]; exact bx_new _ _ _ _ _
  rw [hu]
  clear hu
  refine (refPut_ok a1 a2 n c1 c2 k m R M u (L1.out.keep UB.out) (L2.out.keep UB.out) LR.out.1 LR.out.2 C12.out.1 C12.out.2 hn hk H0.out HL.out).mono ?_
  rintro e w1 ⟨p1, q1, p2, q2, rfl, hT1, hT2, hD1, hD2, hG1, hG2, hB⟩
  have T1 : Hid (Lst .i64 w1 p1 (R.set k 1) ∧ (p1 = none → q1 = 0) ∧ (∀ y, p1 = some y → w.heap.size + 3 ≤ y.block)) := ⟨hT1, hD1, fun y ey => by have := hG1 y ey; omega⟩
  have T2 : Hid (Lst .i64 w1 p2 (M.set k m) ∧ (p2 = none → q2 = 0) ∧ (∀ y, p2 = some y → w.heap.size + 3 ≤ y.block)) := ⟨hT2, hD2, fun y ey => by have := hG2 y ey; omega⟩
  have X1 : Hid (Bx w1 w.heap.size (.slice a1 n c1) (.slice a2 n c2) 1 N) := UX.out.below hB
  have B1 : Hid (Below w.heap.size w w1) := below_then UB.out hB
  clear hT1 hT2 hD1 hD2 hG1 hG2 hB
  obtain ⟨⟨x0, x1⟩, ⟨o0, o1⟩, ⟨r0, r1⟩⟩ := X1.out.cells
  obtain ⟨⟨f0, f1⟩, ⟨e0, e1⟩⟩ := X1.out.open
  go_wp2_with fail
  clear x0 x1 o0 o1 r0 r1 f0 f1 e0 e1
  obtain ⟨v1, hv1⟩ : ∃ v, ((w1.setCell ⟨w.heap.size, 0, none⟩ (.slice p1 n q1)).setCell ⟨w.heap.size, 1, none⟩ (.slice p2 n q2)) = v := ⟨_, rfl⟩
  have X2 : Hid (Bx v1 w.heap.size (.slice p1 n q1) (.slice p2 n q2) 1 N) := by rw [← hv1]; exact X1.out.put _ _
  have B2 : Hid (Below w.heap.size w v1) := by rw [← hv1]; exact (B1.out.setCell (by simp) _).setCell (by simp) _
  have U2 : Hid (Up (w.heap.size + 3) w1 v1) := by rw [← hv1]; exact ((Up.refl _ _).set (by show w.heap.size < _; omega) _).set (by show w.heap.size < _; omega) _
  rw [hv1]
  clear hv1 X1 B1
  refine (made_any N v1).mono ?_
  rintro e w2 ⟨q, rfl, hq, hlt, hbel⟩
  rw [EM.out] at hq
  have hs2 := B2.out.size
  have Q3 : Hid (PgM w2 q m ∧ ¬ q = g ∧ ¬ q = b) := ⟨hq, by omega, by omega⟩
  have X3 : Hid (Bx w2 w.heap.size (.slice p1 n q1) (.slice p2 n q2) 1 N) := X2.out.below hbel
  have B3 : Hid (Below w.heap.size w w2) := below_then B2.out hbel
  have U3 : Hid (Up (w.heap.size + 3) w1 w2) := U2.out.below hbel
  clear hq hlt hbel X2 B2 U2
  go_wp2_with fail
  refine (put_ok g b n k q m R M w2 (HP.out.keep B3.out) hk H0.out HL.out Q3.out.1 Q3.out.2.1 Q3.out.2.2).mono ?_
  rintro e w3 ⟨rfl, hp, hbt⟩
  have P4 : Hid (PoolAt w3 g b n (R.set k 1) (M.set k (m))) := hp
  have X4 : Hid (Bx w3 w.heap.size (.slice p1 n q1) (.slice p2 n q2) 1 N) := X3.out.but hbt lg lb
  have B4 : Hid (But2 g b w w3) := (But2.of_below B3.out (by omega)).trans hbt
  have U4 : Hid (Up (w.heap.size + 3) w1 w3) := U3.out.but hbt (by omega) (by omega)
  clear hp hbt X3 B3 U3
  obtain ⟨⟨x0, x1⟩, ⟨o0, o1⟩, ⟨r0, r1⟩⟩ := X4.out.cells
  obtain ⟨⟨f0, f1⟩, ⟨e0, e1⟩⟩ := X4.out.open
  go_wp2
  refine bodyPost_ret (v := .tuple #[.agg #[.slice p1 n q1, .slice p2 n q2], .bool true]) (by simp [results, Try.results10, go_sem, r0, r1]) rfl ⟨_, _, rfl, X4.out.answer P4.out lg lb _ _, ?_, ?_⟩
  · have UU := (U4.out.set (p := ⟨w.heap.size + 2, 0, none⟩) (by show w.heap.size + 2 < _; omega) (.slice p1 n q1)).set (p := ⟨w.heap.size + 2, 1, none⟩) (by show w.heap.size + 2 < _; omega) (.slice p2 n q2)
    exact ⟨p1, q1, p2, q2, rfl, rfl, UU.lst T1.out.1 T1.out.2.2, UU.lst T2.out.1 T2.out.2.2, T1.out.2.1, T2.out.2.1, off_of T1.out.2.2 (by omega) (by omega), off_of T2.out.2.2 (by omega) (by omega)⟩
  · exact (B4.out.set (p := ⟨w.heap.size + 2, 0, none⟩) (by show w.heap.size ≤ w.heap.size + 2; omega) lg (.slice p1 n q1)).set (p := ⟨w.heap.size + 2, 1, none⟩) (by show w.heap.size ≤ w.heap.size + 2; omega) lg (.slice p2 n q2)

set_option maxRecDepth 100000 in
set_option maxHeartbeats 3200000 in
theorem stepA_put_full (g b n : Nat) (N : Int) (s1 s2 : Value) (R M : List Int) (w : World) (hp : PoolAt w g b n R M) (hr : RefAt w g b n R M s1 s2) (hl : ∀ i, i < R.length → ¬ Ls.nth R i = 0) :
    Calls Try.prog 10 #[.pointer (some ⟨g, 0, none⟩), .agg #[s1, s2], .agg #[.int .i64 1, .int .i64 N]] w fun e w' => ∃ t1 t2, e = .returned (.tuple #[.agg #[t1, t2], .bool true]) ∧ PoolAt w' g b n R M ∧ RefAt w' g b n R M t1 t2 ∧ But2 g b w w' := by
  obtain ⟨a1, c1, a2, c2, rfl, rfl, hL1, hL2, hC1, hC2, hO1, hO2⟩ := hr
  obtain ⟨nbg, lR, lM, hn, hnn⟩ := hp.nums
  obtain ⟨lg, lb⟩ := hp.lt
  have HP : Hid (PoolAt w g b n R M) := hp
  have L1 : Hid (Lst .i64 w a1 R) := hL1
  have L2 : Hid (Lst .i64 w a2 M) := hL2
  have C12 : Hid ((a1 = none → c1 = 0) ∧ (a2 = none → c2 = 0)) := ⟨hC1, hC2⟩
  have O12 : Hid (Off g b a1 ∧ Off g b a2) := ⟨hO1, hO2⟩
  have LR : Hid (R.length = n ∧ M.length = n) := ⟨lR, lM⟩
  have HL : Hid (∀ i, i < n → ¬ Ls.nth R i = 0) := by rw [lR] at hl; exact hl
  have hbm := bits_mark N
  obtain ⟨m, em⟩ : ∃ m, Po.mk N = m := ⟨_, rfl⟩
  have EM : Hid (Po.mk N = m) := em
  rw [em] at hbm
  clear hp hL1 hL2 hC1 hC2 hO1 hO2 lR lM hnn hl em
  go_enter Try.func10, Try.ntmps10
  go_wp2_with fail
  obtain ⟨u, hu⟩ : ∃ u, ((w.alloc (.cells #[.slice a1 n c1, .slice a2 n c2] 30)).alloc (.cells #[.int .i64 1, .int .i64 N] 33)).alloc (.cells #[.slice none 0 0, .slice none 0 0] 30) = u := ⟨_, rfl⟩
  have UB : Hid (Below w.heap.size w u) := by rw [← hu]; exact three_below _ _ _ _
  have US : u.heap.size = w.heap.size + 3 := by rw [← hu]; exact three_size _ _ _ _
  have UX : Hid (Bx u w.heap.size (.slice a1 n c1) (.slice a2 n c2) 1 N) := by rw [← hu]; exact bx_new _ _ _ _ _
  rw [hu]
  clear hu
  refine (refPut_full a1 a2 n c1 n c2 m R u (L1.out.keep UB.out) LR.out.1 (by omega) HL.out).mono ?_
  rintro e w1 ⟨rfl, hB⟩
  have X1 : Hid (Bx w1 w.heap.size (.slice a1 n c1) (.slice a2 n c2) 1 N) := UX.out.below hB
  have B1 : Hid (Below w.heap.size w w1) := below_then UB.out hB
  clear hB
  obtain ⟨⟨x0, x1⟩, ⟨o0, o1⟩, ⟨r0, r1⟩⟩ := X1.out.cells
  obtain ⟨⟨f0, f1⟩, ⟨e0, e1⟩⟩ := X1.out.open
  go_wp2_with fail
  clear x0 x1 o0 o1 r0 r1 f0 f1 e0 e1
  obtain ⟨v1, hv1⟩ : ∃ v, ((w1.setCell ⟨w.heap.size, 0, none⟩ (.slice a1 n c1)).setCell ⟨w.heap.size, 1, none⟩ (.slice a2 n c2)) = v := ⟨_, rfl⟩
  have X2 : Hid (Bx v1 w.heap.size (.slice a1 n c1) (.slice a2 n c2) 1 N) := by rw [← hv1]; exact X1.out.put _ _
  have B2 : Hid (Below w.heap.size w v1) := by rw [← hv1]; exact (B1.out.setCell (by simp) _).setCell (by simp) _
  have U2 : Hid (Up (w.heap.size + 3) w1 v1) := by rw [← hv1]; exact ((Up.refl _ _).set (by show w.heap.size < _; omega) _).set (by show w.heap.size < _; omega) _
  rw [hv1]
  clear hv1 X1 B1
  refine (made_any N v1).mono ?_
  rintro e w2 ⟨q, rfl, hq, hlt, hbel⟩
  rw [EM.out] at hq
  have hs2 := B2.out.size
  have Q3 : Hid (PgM w2 q m ∧ ¬ q = g ∧ ¬ q = b) := ⟨hq, by omega, by omega⟩
  have X3 : Hid (Bx w2 w.heap.size (.slice a1 n c1) (.slice a2 n c2) 1 N) := X2.out.below hbel
  have B3 : Hid (Below w.heap.size w w2) := below_then B2.out hbel
  have U3 : Hid (Up (w.heap.size + 3) w1 w2) := U2.out.below hbel
  clear hq hlt hbel X2 B2 U2
  go_wp2_with fail
  refine (put_full g b n _ R M w2 (HP.out.keep B3.out) (by rw [LR.out.1]; exact HL.out)).mono ?_
  rintro e w3 ⟨rfl, hww⟩
  have P4 : Hid (PoolAt w3 g b n R M) := by rw [hww]; exact HP.out.keep B3.out
  have X4 : Hid (Bx w3 w.heap.size (.slice a1 n c1) (.slice a2 n c2) 1 N) := by rw [hww]; exact X3.out
  have B4 : Hid (But2 g b w w3) := by rw [hww]; exact But2.of_below B3.out (by omega)
  have U4 : Hid (Up (w.heap.size + 3) w1 w3) := by rw [hww]; exact U3.out
  clear X3 B3 U3 hww
  obtain ⟨⟨x0, x1⟩, ⟨o0, o1⟩, ⟨r0, r1⟩⟩ := X4.out.cells
  obtain ⟨⟨f0, f1⟩, ⟨e0, e1⟩⟩ := X4.out.open
  go_wp2
  refine bodyPost_ret (v := .tuple #[.agg #[.slice a1 n c1, .slice a2 n c2], .bool true]) (by simp [results, Try.results10, go_sem, r0, r1]) rfl ⟨_, _, rfl, X4.out.answer P4.out lg lb _ _, ?_, ?_⟩
  · have BF := (B4.out.set (p := ⟨w.heap.size + 2, 0, none⟩) (by show w.heap.size ≤ w.heap.size + 2; omega) lg (.slice a1 n c1)).set (p := ⟨w.heap.size + 2, 1, none⟩) (by show w.heap.size ≤ w.heap.size + 2; omega) lg (.slice a2 n c2)
    exact ⟨_, _, _, _, rfl, rfl, BF.lst L1.out O12.out.1, BF.lst L2.out O12.out.2, C12.out.1, C12.out.2, O12.out.1, O12.out.2⟩
  · exact (B4.out.set (p := ⟨w.heap.size + 2, 0, none⟩) (by show w.heap.size ≤ w.heap.size + 2; omega) lg (.slice a1 n c1)).set (p := ⟨w.heap.size + 2, 1, none⟩) (by show w.heap.size ≤ w.heap.size + 2; omega) lg (.slice a2 n c2)

set_option maxRecDepth 100000 in
set_option maxHeartbeats 3200000 in
theorem stepA_hold_ok (g b n k : Nat) (x : Int) (s1 s2 : Value) (R M : List Int) (w : World) (hp : PoolAt w g b n R M) (hr : RefAt w g b n R M s1 s2) (hk : k < n) (ex : Ls.nth R k = x) (hx0 : 0 < x) (hx1 : x < 100000) :
    Calls Try.prog 10 #[.pointer (some ⟨g, 0, none⟩), .agg #[s1, s2], .agg #[.int .i64 2, .int .i64 k]] w fun e w' => ∃ t1 t2, e = .returned (.tuple #[.agg #[t1, t2], .bool true]) ∧ PoolAt w' g b n (R.set k (x + 1)) M ∧ RefAt w' g b n (R.set k (x + 1)) M t1 t2 ∧ But2 g b w w' := by
  obtain ⟨a1, c1, a2, c2, rfl, rfl, hL1, hL2, hC1, hC2, hO1, hO2⟩ := hr
  obtain ⟨nbg, lR, lM, hn, hnn⟩ := hp.nums
  obtain ⟨lg, lb⟩ := hp.lt
  have HP : Hid (PoolAt w g b n R M) := hp
  have L1 : Hid (Lst .i64 w a1 R) := hL1
  have L2 : Hid (Lst .i64 w a2 M) := hL2
  have C12 : Hid ((a1 = none → c1 = 0) ∧ (a2 = none → c2 = 0)) := ⟨hC1, hC2⟩
  have O12 : Hid (Off g b a1 ∧ Off g b a2) := ⟨hO1, hO2⟩
  have LR : Hid (R.length = n ∧ M.length = n) := ⟨lR, lM⟩
  have EX : Hid (Ls.nth R k = x) := ex
  have HR : Hid (0 < Ls.nth R k) := by show 0 < Ls.nth R k; rw [ex]; omega
  obtain ⟨y, ey⟩ : ∃ y, x + 1 = y := ⟨_, rfl⟩
  have EY : Hid (x + 1 = y) := ey
  rw [ey]
  clear hp hL1 hL2 hC1 hC2 hO1 hO2 lR lM hnn ex ey
  go_enter Try.func10, Try.ntmps10
  go_wp2_with fail
  obtain ⟨u, hu⟩ : ∃ u, ((w.alloc (.cells #[.slice a1 n c1, .slice a2 n c2] 30)).alloc (.cells #[.int .i64 2, .int .i64 k] 33)).alloc (.cells #[.slice none 0 0, .slice none 0 0] 30) = u := ⟨_, rfl⟩
  have UB : Hid (Below w.heap.size w u) := by rw [← hu]; exact three_below _ _ _ _
  have US : u.heap.size = w.heap.size + 3 := by rw [← hu]; exact three_size _ _ _ _
  have UX : Hid (Bx u w.heap.size (.slice a1 n c1) (.slice a2 n c2) 2 k) := by rw [← hu]; exact bx_new _ _ _ _ _
  rw [hu]
  clear hu
  refine (refChange_ok a1 a2 n c1 n c2 k x y 1 R u (L1.out.keep UB.out) LR.out.1 C12.out.1 hk EX.out (by omega) EY.out (by omega) (by omega) hn).mono ?_
  rintro e w1 ⟨p1, q1, rfl, hT1, hD1, hG1, hB⟩
  have T1 : Hid (Lst .i64 w1 p1 (R.set k y) ∧ (p1 = none → q1 = 0) ∧ (∀ y, p1 = some y → w.heap.size + 3 ≤ y.block)) := ⟨hT1, hD1, fun y ey => by have := hG1 y ey; omega⟩
  have X1 : Hid (Bx w1 w.heap.size (.slice a1 n c1) (.slice a2 n c2) 2 k) := UX.out.below hB
  have B1 : Hid (Below w.heap.size w w1) := below_then UB.out hB
  clear hT1 hD1 hG1 hB
  obtain ⟨⟨x0, x1⟩, ⟨o0, o1⟩, ⟨r0, r1⟩⟩ := X1.out.cells
  obtain ⟨⟨f0, f1⟩, ⟨e0, e1⟩⟩ := X1.out.open
  go_wp2_with fail
  clear x0 x1 o0 o1 r0 r1 f0 f1 e0 e1
  obtain ⟨v1, hv1⟩ : ∃ v, ((w1.setCell ⟨w.heap.size, 0, none⟩ (.slice p1 n q1)).setCell ⟨w.heap.size, 1, none⟩ (.slice a2 n c2)) = v := ⟨_, rfl⟩
  have X2 : Hid (Bx v1 w.heap.size (.slice p1 n q1) (.slice a2 n c2) 2 k) := by rw [← hv1]; exact X1.out.put _ _
  have B2 : Hid (Below w.heap.size w v1) := by rw [← hv1]; exact (B1.out.setCell (by simp) _).setCell (by simp) _
  have U2 : Hid (Up (w.heap.size + 3) w1 v1) := by rw [← hv1]; exact ((Up.refl _ _).set (by show w.heap.size < _; omega) _).set (by show w.heap.size < _; omega) _
  rw [hv1]
  clear hv1 X1 B1
  have KS : Hid (∀ w', Kp2 w.heap.size v1 w' → (w'.cell? ⟨w.heap.size, 0, none⟩ = some (.slice p1 n q1) ∧ w'.cell? ⟨w.heap.size, 1, none⟩ = some (.slice a2 n c2)) ∧ w'.cell? ⟨w.heap.size + 1, 1, none⟩ = some (.int .i64 k)) := fun w' hk => X2.out.kp hk
  have hkc : Hid (Kp2 w.heap.size v1 v1.drew) := Kp2.drew _ _
  go_wp2_with fail
  go_region_held3 (fun w' => (w'.cell? ⟨w.heap.size, 0, none⟩ = some (.slice p1 n q1) ∧ w'.cell? ⟨w.heap.size, 1, none⟩ = some (.slice a2 n c2)) ∧ w'.cell? ⟨w.heap.size + 1, 1, none⟩ = some (.int .i64 k))
    (first
      | exact KS.out _ hkc.out
      | exact KS.out _ (hkc.out.set _ _)
      | assumption)
    (first
      | (go_at_call 19; (with_reducible refine (hold_some g b n k x R M _ (HP.out.keep B2.out.drew) hk EX.out hx0 (by omega)).mono ?_); (rintro e w2 ⟨rfl, hp, hbt⟩; rw [EY.out] at hp; have P4 : Hid (PoolAt w2 g b n (R.set k y) M) := hp; have X4 : Hid (Bx w2 w.heap.size (.slice p1 n q1) (.slice a2 n c2) 2 k) := X2.out.drew.but hbt lg lb; have B4 : Hid (But2 g b w w2) := (But2.of_below (B2.out.drew) (by omega)).trans hbt; have U4 : Hid (Up (w.heap.size + 3) w1 w2) := (U2.out.below ((Below.refl _ _).drew)).but hbt (by omega) (by omega); have hkc : Hid (Kp2 w.heap.size v1 w2) := hkc.out.but hbt lg lb X2.out.drew.size; obtain ⟨_, _, ⟨r0, r1⟩⟩ := X4.out.cells; obtain ⟨_, ⟨e0, e1⟩⟩ := X4.out.open; clear hp hbt)))
  go_wp2
  refine bodyPost_ret (v := .tuple #[.agg #[.slice p1 n q1, .slice a2 n c2], .bool true]) (by simp [results, Try.results10, go_sem, r0, r1]) rfl ⟨_, _, rfl, X4.out.answer P4.out lg lb _ _, ?_, ?_⟩
  · have UU := (U4.out.set (p := ⟨w.heap.size + 2, 0, none⟩) (by show w.heap.size + 2 < _; omega) (.slice p1 n q1)).set (p := ⟨w.heap.size + 2, 1, none⟩) (by show w.heap.size + 2 < _; omega) (.slice a2 n c2)
    have BF := (B4.out.set (p := ⟨w.heap.size + 2, 0, none⟩) (by show w.heap.size ≤ w.heap.size + 2; omega) lg (.slice p1 n q1)).set (p := ⟨w.heap.size + 2, 1, none⟩) (by show w.heap.size ≤ w.heap.size + 2; omega) lg (.slice a2 n c2)
    exact ⟨p1, q1, a2, c2, rfl, rfl, UU.lst T1.out.1 T1.out.2.2, BF.lst L2.out O12.out.2, T1.out.2.1, C12.out.2, off_of T1.out.2.2 (by omega) (by omega), O12.out.2⟩
  · exact (B4.out.set (p := ⟨w.heap.size + 2, 0, none⟩) (by show w.heap.size ≤ w.heap.size + 2; omega) lg (.slice p1 n q1)).set (p := ⟨w.heap.size + 2, 1, none⟩) (by show w.heap.size ≤ w.heap.size + 2; omega) lg (.slice a2 n c2)

set_option maxRecDepth 100000 in
set_option maxHeartbeats 3200000 in
theorem stepA_hold_none (g b n : Nat) (id : Int) (s1 s2 : Value) (R M : List Int) (w : World) (hp : PoolAt w g b n R M) (hr : RefAt w g b n R M s1 s2) (hno : ¬ (0 ≤ id ∧ id < n ∧ 0 < Ls.nth R id.toNat)) :
    Calls Try.prog 10 #[.pointer (some ⟨g, 0, none⟩), .agg #[s1, s2], .agg #[.int .i64 2, .int .i64 id]] w fun e w' => ∃ t1 t2, e = .returned (.tuple #[.agg #[t1, t2], .bool true]) ∧ PoolAt w' g b n R M ∧ RefAt w' g b n R M t1 t2 ∧ But2 g b w w' := by
  obtain ⟨a1, c1, a2, c2, rfl, rfl, hL1, hL2, hC1, hC2, hO1, hO2⟩ := hr
  obtain ⟨nbg, lR, lM, hn, hnn⟩ := hp.nums
  obtain ⟨lg, lb⟩ := hp.lt
  have HP : Hid (PoolAt w g b n R M) := hp
  have L1 : Hid (Lst .i64 w a1 R) := hL1
  have L2 : Hid (Lst .i64 w a2 M) := hL2
  have C12 : Hid ((a1 = none → c1 = 0) ∧ (a2 = none → c2 = 0)) := ⟨hC1, hC2⟩
  have O12 : Hid (Off g b a1 ∧ Off g b a2) := ⟨hO1, hO2⟩
  have LR : Hid (R.length = n ∧ M.length = n) := ⟨lR, lM⟩
  have HN : Hid (¬ (0 ≤ id ∧ id < n ∧ 0 < Ls.nth R id.toNat)) := hno
  clear hp hL1 hL2 hC1 hC2 hO1 hO2 lR lM hnn hno
  go_enter Try.func10, Try.ntmps10
  go_wp2_with fail
  obtain ⟨u, hu⟩ : ∃ u, ((w.alloc (.cells #[.slice a1 n c1, .slice a2 n c2] 30)).alloc (.cells #[.int .i64 2, .int .i64 id] 33)).alloc (.cells #[.slice none 0 0, .slice none 0 0] 30) = u := ⟨_, rfl⟩
  have UB : Hid (Below w.heap.size w u) := by rw [← hu]; exact three_below _ _ _ _
  have US : u.heap.size = w.heap.size + 3 := by rw [← hu]; exact three_size _ _ _ _
  have UX : Hid (Bx u w.heap.size (.slice a1 n c1) (.slice a2 n c2) 2 id) := by rw [← hu]; exact bx_new _ _ _ _ _
  rw [hu]
  clear hu
  refine (refChange_none a1 a2 n c1 n c2 id 1 R u (L1.out.keep UB.out) LR.out.1 HN.out).mono ?_
  rintro e w1 ⟨rfl, hB⟩
  have X1 : Hid (Bx w1 w.heap.size (.slice a1 n c1) (.slice a2 n c2) 2 id) := UX.out.below hB
  have B1 : Hid (Below w.heap.size w w1) := below_then UB.out hB
  clear hB
  obtain ⟨⟨x0, x1⟩, ⟨o0, o1⟩, ⟨r0, r1⟩⟩ := X1.out.cells
  obtain ⟨⟨f0, f1⟩, ⟨e0, e1⟩⟩ := X1.out.open
  go_wp2_with fail
  clear x0 x1 o0 o1 r0 r1 f0 f1 e0 e1
  obtain ⟨v1, hv1⟩ : ∃ v, ((w1.setCell ⟨w.heap.size, 0, none⟩ (.slice a1 n c1)).setCell ⟨w.heap.size, 1, none⟩ (.slice a2 n c2)) = v := ⟨_, rfl⟩
  have X2 : Hid (Bx v1 w.heap.size (.slice a1 n c1) (.slice a2 n c2) 2 id) := by rw [← hv1]; exact X1.out.put _ _
  have B2 : Hid (Below w.heap.size w v1) := by rw [← hv1]; exact (B1.out.setCell (by simp) _).setCell (by simp) _
  have U2 : Hid (Up (w.heap.size + 3) w1 v1) := by rw [← hv1]; exact ((Up.refl _ _).set (by show w.heap.size < _; omega) _).set (by show w.heap.size < _; omega) _
  rw [hv1]
  clear hv1 X1 B1
  have KS : Hid (∀ w', Kp2 w.heap.size v1 w' → (w'.cell? ⟨w.heap.size, 0, none⟩ = some (.slice a1 n c1) ∧ w'.cell? ⟨w.heap.size, 1, none⟩ = some (.slice a2 n c2)) ∧ w'.cell? ⟨w.heap.size + 1, 1, none⟩ = some (.int .i64 id)) := fun w' hk => X2.out.kp hk
  have hkc : Hid (Kp2 w.heap.size v1 v1.drew) := Kp2.drew _ _
  go_wp2_with fail
  go_region_held3 (fun w' => (w'.cell? ⟨w.heap.size, 0, none⟩ = some (.slice a1 n c1) ∧ w'.cell? ⟨w.heap.size, 1, none⟩ = some (.slice a2 n c2)) ∧ w'.cell? ⟨w.heap.size + 1, 1, none⟩ = some (.int .i64 id))
    (first
      | exact KS.out _ hkc.out
      | exact KS.out _ (hkc.out.set _ _)
      | assumption)
    (first
      | (go_at_call 19; (with_reducible refine (hold_none g b n id R M _ (HP.out.keep B2.out.drew) HN.out).mono ?_); (rintro e w2 ⟨rfl, hww⟩; have P4 : Hid (PoolAt w2 g b n R M) := (by rw [hww]; exact HP.out.keep B2.out.drew); have X4 : Hid (Bx w2 w.heap.size (.slice a1 n c1) (.slice a2 n c2) 2 id) := (by rw [hww]; exact X2.out.drew); have B4 : Hid (But2 g b w w2) := (by rw [hww]; exact But2.of_below (B2.out.drew) (by omega)); have U4 : Hid (Up (w.heap.size + 3) w1 w2) := (by rw [hww]; exact U2.out.below ((Below.refl _ _).drew)); have hkc : Hid (Kp2 w.heap.size v1 w2) := (by rw [hww]; exact Kp2.drew _ _); clear hww; obtain ⟨_, _, ⟨r0, r1⟩⟩ := X4.out.cells; obtain ⟨_, ⟨e0, e1⟩⟩ := X4.out.open)))
  go_wp2
  refine bodyPost_ret (v := .tuple #[.agg #[.slice a1 n c1, .slice a2 n c2], .bool true]) (by simp [results, Try.results10, go_sem, r0, r1]) rfl ⟨_, _, rfl, X4.out.answer P4.out lg lb _ _, ?_, ?_⟩
  · have BF := (B4.out.set (p := ⟨w.heap.size + 2, 0, none⟩) (by show w.heap.size ≤ w.heap.size + 2; omega) lg (.slice a1 n c1)).set (p := ⟨w.heap.size + 2, 1, none⟩) (by show w.heap.size ≤ w.heap.size + 2; omega) lg (.slice a2 n c2)
    exact ⟨_, _, _, _, rfl, rfl, BF.lst L1.out O12.out.1, BF.lst L2.out O12.out.2, C12.out.1, C12.out.2, O12.out.1, O12.out.2⟩
  · exact (B4.out.set (p := ⟨w.heap.size + 2, 0, none⟩) (by show w.heap.size ≤ w.heap.size + 2; omega) lg (.slice a1 n c1)).set (p := ⟨w.heap.size + 2, 1, none⟩) (by show w.heap.size ≤ w.heap.size + 2; omega) lg (.slice a2 n c2)

set_option maxRecDepth 100000 in
set_option maxHeartbeats 3200000 in
theorem stepA_drop_more (g b n k : Nat) (x : Int) (s1 s2 : Value) (R M : List Int) (w : World) (hp : PoolAt w g b n R M) (hr : RefAt w g b n R M s1 s2) (hk : k < n) (ex : Ls.nth R k = x) (hx0 : 1 < x) (hx1 : x < 100000) :
    Calls Try.prog 10 #[.pointer (some ⟨g, 0, none⟩), .agg #[s1, s2], .agg #[.int .i64 3, .int .i64 k]] w fun e w' => ∃ t1 t2, e = .returned (.tuple #[.agg #[t1, t2], .bool true]) ∧ PoolAt w' g b n (R.set k (x - 1)) M ∧ RefAt w' g b n (R.set k (x - 1)) M t1 t2 ∧ But2 g b w w' := by
  obtain ⟨a1, c1, a2, c2, rfl, rfl, hL1, hL2, hC1, hC2, hO1, hO2⟩ := hr
  obtain ⟨nbg, lR, lM, hn, hnn⟩ := hp.nums
  obtain ⟨lg, lb⟩ := hp.lt
  have HP : Hid (PoolAt w g b n R M) := hp
  have L1 : Hid (Lst .i64 w a1 R) := hL1
  have L2 : Hid (Lst .i64 w a2 M) := hL2
  have C12 : Hid ((a1 = none → c1 = 0) ∧ (a2 = none → c2 = 0)) := ⟨hC1, hC2⟩
  have O12 : Hid (Off g b a1 ∧ Off g b a2) := ⟨hO1, hO2⟩
  have LR : Hid (R.length = n ∧ M.length = n) := ⟨lR, lM⟩
  have EX : Hid (Ls.nth R k = x) := ex
  have HR : Hid (0 < Ls.nth R k) := by show 0 < Ls.nth R k; rw [ex]; omega
  obtain ⟨y, ey⟩ : ∃ y, x - 1 = y := ⟨_, rfl⟩
  have EY : Hid (x - 1 = y) := ey
  have EY2 : Hid (x + -1 = y) := by show _ = _; omega
  rw [ey]
  clear hp hL1 hL2 hC1 hC2 hO1 hO2 lR lM hnn ex ey
  go_enter Try.func10, Try.ntmps10
  go_wp2_with fail
  obtain ⟨u, hu⟩ : ∃ u, ((w.alloc (.cells #[.slice a1 n c1, .slice a2 n c2] 30)).alloc (.cells #[.int .i64 3, .int .i64 k] 33)).alloc (.cells #[.slice none 0 0, .slice none 0 0] 30) = u := ⟨_, rfl⟩
  have UB : Hid (Below w.heap.size w u) := by rw [← hu]; exact three_below _ _ _ _
  have US : u.heap.size = w.heap.size + 3 := by rw [← hu]; exact three_size _ _ _ _
  have UX : Hid (Bx u w.heap.size (.slice a1 n c1) (.slice a2 n c2) 3 k) := by rw [← hu]; exact bx_new _ _ _ _ _
  rw [hu]
  clear hu
  refine (refChange_ok a1 a2 n c1 n c2 k x y (-1) R u (L1.out.keep UB.out) LR.out.1 C12.out.1 hk EX.out (by omega) EY2.out (by omega) (by omega) hn).mono ?_
  rintro e w1 ⟨p1, q1, rfl, hT1, hD1, hG1, hB⟩
  have T1 : Hid (Lst .i64 w1 p1 (R.set k y) ∧ (p1 = none → q1 = 0) ∧ (∀ y, p1 = some y → w.heap.size + 3 ≤ y.block)) := ⟨hT1, hD1, fun y ey => by have := hG1 y ey; omega⟩
  have X1 : Hid (Bx w1 w.heap.size (.slice a1 n c1) (.slice a2 n c2) 3 k) := UX.out.below hB
  have B1 : Hid (Below w.heap.size w w1) := below_then UB.out hB
  clear hT1 hD1 hG1 hB
  obtain ⟨⟨x0, x1⟩, ⟨o0, o1⟩, ⟨r0, r1⟩⟩ := X1.out.cells
  obtain ⟨⟨f0, f1⟩, ⟨e0, e1⟩⟩ := X1.out.open
  go_wp2_with fail
  clear x0 x1 o0 o1 r0 r1 f0 f1 e0 e1
  obtain ⟨v1, hv1⟩ : ∃ v, ((w1.setCell ⟨w.heap.size, 0, none⟩ (.slice p1 n q1)).setCell ⟨w.heap.size, 1, none⟩ (.slice a2 n c2)) = v := ⟨_, rfl⟩
  have X2 : Hid (Bx v1 w.heap.size (.slice p1 n q1) (.slice a2 n c2) 3 k) := by rw [← hv1]; exact X1.out.put _ _
  have B2 : Hid (Below w.heap.size w v1) := by rw [← hv1]; exact (B1.out.setCell (by simp) _).setCell (by simp) _
  have U2 : Hid (Up (w.heap.size + 3) w1 v1) := by rw [← hv1]; exact ((Up.refl _ _).set (by show w.heap.size < _; omega) _).set (by show w.heap.size < _; omega) _
  rw [hv1]
  clear hv1 X1 B1
  have KS : Hid (∀ w', Kp2 w.heap.size v1 w' → (w'.cell? ⟨w.heap.size, 0, none⟩ = some (.slice p1 n q1) ∧ w'.cell? ⟨w.heap.size, 1, none⟩ = some (.slice a2 n c2)) ∧ w'.cell? ⟨w.heap.size + 1, 1, none⟩ = some (.int .i64 k)) := fun w' hk => X2.out.kp hk
  have hkc : Hid (Kp2 w.heap.size v1 v1.drew) := Kp2.drew _ _
  go_wp2_with fail
  go_region_held3 (fun w' => (w'.cell? ⟨w.heap.size, 0, none⟩ = some (.slice p1 n q1) ∧ w'.cell? ⟨w.heap.size, 1, none⟩ = some (.slice a2 n c2)) ∧ w'.cell? ⟨w.heap.size + 1, 1, none⟩ = some (.int .i64 k))
    (first
      | exact KS.out _ hkc.out
      | exact KS.out _ (hkc.out.set _ _)
      | assumption)
    (first
      | (go_at_call 23; (with_reducible refine (drop_more g b n k x R M _ (HP.out.keep B2.out.drew) hk EX.out hx0 (by omega)).mono ?_); (rintro e w2 ⟨rfl, hp, hbt⟩; rw [EY.out] at hp; have P4 : Hid (PoolAt w2 g b n (R.set k y) M) := hp; have X4 : Hid (Bx w2 w.heap.size (.slice p1 n q1) (.slice a2 n c2) 3 k) := X2.out.drew.but hbt lg lb; have B4 : Hid (But2 g b w w2) := (But2.of_below (B2.out.drew) (by omega)).trans hbt; have U4 : Hid (Up (w.heap.size + 3) w1 w2) := (U2.out.below ((Below.refl _ _).drew)).but hbt (by omega) (by omega); have hkc : Hid (Kp2 w.heap.size v1 w2) := hkc.out.but hbt lg lb X2.out.drew.size; obtain ⟨_, _, ⟨r0, r1⟩⟩ := X4.out.cells; obtain ⟨_, ⟨e0, e1⟩⟩ := X4.out.open; clear hp hbt)))
  go_wp2
  refine bodyPost_ret (v := .tuple #[.agg #[.slice p1 n q1, .slice a2 n c2], .bool true]) (by simp [results, Try.results10, go_sem, r0, r1]) rfl ⟨_, _, rfl, X4.out.answer P4.out lg lb _ _, ?_, ?_⟩
  · have UU := (U4.out.set (p := ⟨w.heap.size + 2, 0, none⟩) (by show w.heap.size + 2 < _; omega) (.slice p1 n q1)).set (p := ⟨w.heap.size + 2, 1, none⟩) (by show w.heap.size + 2 < _; omega) (.slice a2 n c2)
    have BF := (B4.out.set (p := ⟨w.heap.size + 2, 0, none⟩) (by show w.heap.size ≤ w.heap.size + 2; omega) lg (.slice p1 n q1)).set (p := ⟨w.heap.size + 2, 1, none⟩) (by show w.heap.size ≤ w.heap.size + 2; omega) lg (.slice a2 n c2)
    exact ⟨p1, q1, a2, c2, rfl, rfl, UU.lst T1.out.1 T1.out.2.2, BF.lst L2.out O12.out.2, T1.out.2.1, C12.out.2, off_of T1.out.2.2 (by omega) (by omega), O12.out.2⟩
  · exact (B4.out.set (p := ⟨w.heap.size + 2, 0, none⟩) (by show w.heap.size ≤ w.heap.size + 2; omega) lg (.slice p1 n q1)).set (p := ⟨w.heap.size + 2, 1, none⟩) (by show w.heap.size ≤ w.heap.size + 2; omega) lg (.slice a2 n c2)

set_option maxRecDepth 100000 in
set_option maxHeartbeats 3200000 in
theorem stepA_drop_last (g b n k : Nat) (s1 s2 : Value) (R M : List Int) (w : World) (hp : PoolAt w g b n R M) (hr : RefAt w g b n R M s1 s2) (hk : k < n) (ex : Ls.nth R k = 1) :
    Calls Try.prog 10 #[.pointer (some ⟨g, 0, none⟩), .agg #[s1, s2], .agg #[.int .i64 3, .int .i64 k]] w fun e w' => ∃ t1 t2, e = .returned (.tuple #[.agg #[t1, t2], .bool true]) ∧ PoolAt w' g b n (R.set k 0) M ∧ RefAt w' g b n (R.set k 0) M t1 t2 ∧ But2 g b w w' := by
  obtain ⟨a1, c1, a2, c2, rfl, rfl, hL1, hL2, hC1, hC2, hO1, hO2⟩ := hr
  obtain ⟨nbg, lR, lM, hn, hnn⟩ := hp.nums
  obtain ⟨lg, lb⟩ := hp.lt
  have HP : Hid (PoolAt w g b n R M) := hp
  have L1 : Hid (Lst .i64 w a1 R) := hL1
  have L2 : Hid (Lst .i64 w a2 M) := hL2
  have C12 : Hid ((a1 = none → c1 = 0) ∧ (a2 = none → c2 = 0)) := ⟨hC1, hC2⟩
  have O12 : Hid (Off g b a1 ∧ Off g b a2) := ⟨hO1, hO2⟩
  have LR : Hid (R.length = n ∧ M.length = n) := ⟨lR, lM⟩
  have EX : Hid (Ls.nth R k = 1) := ex
  have HR : Hid (0 < Ls.nth R k) := by show 0 < Ls.nth R k; rw [ex]; omega
  clear hp hL1 hL2 hC1 hC2 hO1 hO2 lR lM hnn ex
  go_enter Try.func10, Try.ntmps10
  go_wp2_with fail
  obtain ⟨u, hu⟩ : ∃ u, ((w.alloc (.cells #[.slice a1 n c1, .slice a2 n c2] 30)).alloc (.cells #[.int .i64 3, .int .i64 k] 33)).alloc (.cells #[.slice none 0 0, .slice none 0 0] 30) = u := ⟨_, rfl⟩
  have UB : Hid (Below w.heap.size w u) := by rw [← hu]; exact three_below _ _ _ _
  have US : u.heap.size = w.heap.size + 3 := by rw [← hu]; exact three_size _ _ _ _
  have UX : Hid (Bx u w.heap.size (.slice a1 n c1) (.slice a2 n c2) 3 k) := by rw [← hu]; exact bx_new _ _ _ _ _
  rw [hu]
  clear hu
  refine (refChange_ok a1 a2 n c1 n c2 k 1 0 (-1) R u (L1.out.keep UB.out) LR.out.1 C12.out.1 hk EX.out (by omega) (by decide) (by omega) (by omega) hn).mono ?_
  rintro e w1 ⟨p1, q1, rfl, hT1, hD1, hG1, hB⟩
  have T1 : Hid (Lst .i64 w1 p1 (R.set k 0) ∧ (p1 = none → q1 = 0) ∧ (∀ y, p1 = some y → w.heap.size + 3 ≤ y.block)) := ⟨hT1, hD1, fun y ey => by have := hG1 y ey; omega⟩
  have X1 : Hid (Bx w1 w.heap.size (.slice a1 n c1) (.slice a2 n c2) 3 k) := UX.out.below hB
  have B1 : Hid (Below w.heap.size w w1) := below_then UB.out hB
  clear hT1 hD1 hG1 hB
  obtain ⟨⟨x0, x1⟩, ⟨o0, o1⟩, ⟨r0, r1⟩⟩ := X1.out.cells
  obtain ⟨⟨f0, f1⟩, ⟨e0, e1⟩⟩ := X1.out.open
  go_wp2_with fail
  clear x0 x1 o0 o1 r0 r1 f0 f1 e0 e1
  obtain ⟨v1, hv1⟩ : ∃ v, ((w1.setCell ⟨w.heap.size, 0, none⟩ (.slice p1 n q1)).setCell ⟨w.heap.size, 1, none⟩ (.slice a2 n c2)) = v := ⟨_, rfl⟩
  have X2 : Hid (Bx v1 w.heap.size (.slice p1 n q1) (.slice a2 n c2) 3 k) := by rw [← hv1]; exact X1.out.put _ _
  have B2 : Hid (Below w.heap.size w v1) := by rw [← hv1]; exact (B1.out.setCell (by simp) _).setCell (by simp) _
  have U2 : Hid (Up (w.heap.size + 3) w1 v1) := by rw [← hv1]; exact ((Up.refl _ _).set (by show w.heap.size < _; omega) _).set (by show w.heap.size < _; omega) _
  rw [hv1]
  clear hv1 X1 B1
  have KS : Hid (∀ w', Kp2 w.heap.size v1 w' → (w'.cell? ⟨w.heap.size, 0, none⟩ = some (.slice p1 n q1) ∧ w'.cell? ⟨w.heap.size, 1, none⟩ = some (.slice a2 n c2)) ∧ w'.cell? ⟨w.heap.size + 1, 1, none⟩ = some (.int .i64 k)) := fun w' hk => X2.out.kp hk
  have hkc : Hid (Kp2 w.heap.size v1 v1.drew) := Kp2.drew _ _
  go_wp2_with fail
  go_region_held3 (fun w' => (w'.cell? ⟨w.heap.size, 0, none⟩ = some (.slice p1 n q1) ∧ w'.cell? ⟨w.heap.size, 1, none⟩ = some (.slice a2 n c2)) ∧ w'.cell? ⟨w.heap.size + 1, 1, none⟩ = some (.int .i64 k))
    (first
      | exact KS.out _ hkc.out
      | exact KS.out _ (hkc.out.set _ _)
      | assumption)
    (first
      | (go_at_call 23; (with_reducible refine (drop_last g b n k R M _ (HP.out.keep B2.out.drew) hk EX.out).mono ?_); (rintro e w2 ⟨rfl, hp, hbt⟩; have P4 : Hid (PoolAt w2 g b n (R.set k 0) M) := hp; have X4 : Hid (Bx w2 w.heap.size (.slice p1 n q1) (.slice a2 n c2) 3 k) := X2.out.drew.but hbt lg lb; have B4 : Hid (But2 g b w w2) := (But2.of_below (B2.out.drew) (by omega)).trans hbt; have U4 : Hid (Up (w.heap.size + 3) w1 w2) := (U2.out.below ((Below.refl _ _).drew)).but hbt (by omega) (by omega); have hkc : Hid (Kp2 w.heap.size v1 w2) := hkc.out.but hbt lg lb X2.out.drew.size; obtain ⟨_, _, ⟨r0, r1⟩⟩ := X4.out.cells; obtain ⟨_, ⟨e0, e1⟩⟩ := X4.out.open; clear hp hbt)))
  go_wp2
  refine bodyPost_ret (v := .tuple #[.agg #[.slice p1 n q1, .slice a2 n c2], .bool true]) (by simp [results, Try.results10, go_sem, r0, r1]) rfl ⟨_, _, rfl, X4.out.answer P4.out lg lb _ _, ?_, ?_⟩
  · have UU := (U4.out.set (p := ⟨w.heap.size + 2, 0, none⟩) (by show w.heap.size + 2 < _; omega) (.slice p1 n q1)).set (p := ⟨w.heap.size + 2, 1, none⟩) (by show w.heap.size + 2 < _; omega) (.slice a2 n c2)
    have BF := (B4.out.set (p := ⟨w.heap.size + 2, 0, none⟩) (by show w.heap.size ≤ w.heap.size + 2; omega) lg (.slice p1 n q1)).set (p := ⟨w.heap.size + 2, 1, none⟩) (by show w.heap.size ≤ w.heap.size + 2; omega) lg (.slice a2 n c2)
    exact ⟨p1, q1, a2, c2, rfl, rfl, UU.lst T1.out.1 T1.out.2.2, BF.lst L2.out O12.out.2, T1.out.2.1, C12.out.2, off_of T1.out.2.2 (by omega) (by omega), O12.out.2⟩
  · exact (B4.out.set (p := ⟨w.heap.size + 2, 0, none⟩) (by show w.heap.size ≤ w.heap.size + 2; omega) lg (.slice p1 n q1)).set (p := ⟨w.heap.size + 2, 1, none⟩) (by show w.heap.size ≤ w.heap.size + 2; omega) lg (.slice a2 n c2)

set_option maxRecDepth 100000 in
set_option maxHeartbeats 3200000 in
theorem stepA_drop_none (g b n : Nat) (id : Int) (s1 s2 : Value) (R M : List Int) (w : World) (hp : PoolAt w g b n R M) (hr : RefAt w g b n R M s1 s2) (hno : ¬ (0 ≤ id ∧ id < n ∧ 0 < Ls.nth R id.toNat)) :
    Calls Try.prog 10 #[.pointer (some ⟨g, 0, none⟩), .agg #[s1, s2], .agg #[.int .i64 3, .int .i64 id]] w fun e w' => ∃ t1 t2, e = .returned (.tuple #[.agg #[t1, t2], .bool true]) ∧ PoolAt w' g b n R M ∧ RefAt w' g b n R M t1 t2 ∧ But2 g b w w' := by
  obtain ⟨a1, c1, a2, c2, rfl, rfl, hL1, hL2, hC1, hC2, hO1, hO2⟩ := hr
  obtain ⟨nbg, lR, lM, hn, hnn⟩ := hp.nums
  obtain ⟨lg, lb⟩ := hp.lt
  have HP : Hid (PoolAt w g b n R M) := hp
  have L1 : Hid (Lst .i64 w a1 R) := hL1
  have L2 : Hid (Lst .i64 w a2 M) := hL2
  have C12 : Hid ((a1 = none → c1 = 0) ∧ (a2 = none → c2 = 0)) := ⟨hC1, hC2⟩
  have O12 : Hid (Off g b a1 ∧ Off g b a2) := ⟨hO1, hO2⟩
  have LR : Hid (R.length = n ∧ M.length = n) := ⟨lR, lM⟩
  have HN : Hid (¬ (0 ≤ id ∧ id < n ∧ 0 < Ls.nth R id.toNat)) := hno
  clear hp hL1 hL2 hC1 hC2 hO1 hO2 lR lM hnn hno
  go_enter Try.func10, Try.ntmps10
  go_wp2_with fail
  obtain ⟨u, hu⟩ : ∃ u, ((w.alloc (.cells #[.slice a1 n c1, .slice a2 n c2] 30)).alloc (.cells #[.int .i64 3, .int .i64 id] 33)).alloc (.cells #[.slice none 0 0, .slice none 0 0] 30) = u := ⟨_, rfl⟩
  have UB : Hid (Below w.heap.size w u) := by rw [← hu]; exact three_below _ _ _ _
  have US : u.heap.size = w.heap.size + 3 := by rw [← hu]; exact three_size _ _ _ _
  have UX : Hid (Bx u w.heap.size (.slice a1 n c1) (.slice a2 n c2) 3 id) := by rw [← hu]; exact bx_new _ _ _ _ _
  rw [hu]
  clear hu
  refine (refChange_none a1 a2 n c1 n c2 id (-1) R u (L1.out.keep UB.out) LR.out.1 HN.out).mono ?_
  rintro e w1 ⟨rfl, hB⟩
  have X1 : Hid (Bx w1 w.heap.size (.slice a1 n c1) (.slice a2 n c2) 3 id) := UX.out.below hB
  have B1 : Hid (Below w.heap.size w w1) := below_then UB.out hB
  clear hB
  obtain ⟨⟨x0, x1⟩, ⟨o0, o1⟩, ⟨r0, r1⟩⟩ := X1.out.cells
  obtain ⟨⟨f0, f1⟩, ⟨e0, e1⟩⟩ := X1.out.open
  go_wp2_with fail
  clear x0 x1 o0 o1 r0 r1 f0 f1 e0 e1
  obtain ⟨v1, hv1⟩ : ∃ v, ((w1.setCell ⟨w.heap.size, 0, none⟩ (.slice a1 n c1)).setCell ⟨w.heap.size, 1, none⟩ (.slice a2 n c2)) = v := ⟨_, rfl⟩
  have X2 : Hid (Bx v1 w.heap.size (.slice a1 n c1) (.slice a2 n c2) 3 id) := by rw [← hv1]; exact X1.out.put _ _
  have B2 : Hid (Below w.heap.size w v1) := by rw [← hv1]; exact (B1.out.setCell (by simp) _).setCell (by simp) _
  have U2 : Hid (Up (w.heap.size + 3) w1 v1) := by rw [← hv1]; exact ((Up.refl _ _).set (by show w.heap.size < _; omega) _).set (by show w.heap.size < _; omega) _
  rw [hv1]
  clear hv1 X1 B1
  have KS : Hid (∀ w', Kp2 w.heap.size v1 w' → (w'.cell? ⟨w.heap.size, 0, none⟩ = some (.slice a1 n c1) ∧ w'.cell? ⟨w.heap.size, 1, none⟩ = some (.slice a2 n c2)) ∧ w'.cell? ⟨w.heap.size + 1, 1, none⟩ = some (.int .i64 id)) := fun w' hk => X2.out.kp hk
  have hkc : Hid (Kp2 w.heap.size v1 v1.drew) := Kp2.drew _ _
  go_wp2_with fail
  go_region_held3 (fun w' => (w'.cell? ⟨w.heap.size, 0, none⟩ = some (.slice a1 n c1) ∧ w'.cell? ⟨w.heap.size, 1, none⟩ = some (.slice a2 n c2)) ∧ w'.cell? ⟨w.heap.size + 1, 1, none⟩ = some (.int .i64 id))
    (first
      | exact KS.out _ hkc.out
      | exact KS.out _ (hkc.out.set _ _)
      | assumption)
    (first
      | (go_at_call 23; (with_reducible refine (drop_none g b n id R M _ (HP.out.keep B2.out.drew) HN.out).mono ?_); (rintro e w2 ⟨rfl, hww⟩; have P4 : Hid (PoolAt w2 g b n R M) := (by rw [hww]; exact HP.out.keep B2.out.drew); have X4 : Hid (Bx w2 w.heap.size (.slice a1 n c1) (.slice a2 n c2) 3 id) := (by rw [hww]; exact X2.out.drew); have B4 : Hid (But2 g b w w2) := (by rw [hww]; exact But2.of_below (B2.out.drew) (by omega)); have U4 : Hid (Up (w.heap.size + 3) w1 w2) := (by rw [hww]; exact U2.out.below ((Below.refl _ _).drew)); have hkc : Hid (Kp2 w.heap.size v1 w2) := (by rw [hww]; exact Kp2.drew _ _); clear hww; obtain ⟨_, _, ⟨r0, r1⟩⟩ := X4.out.cells; obtain ⟨_, ⟨e0, e1⟩⟩ := X4.out.open)))
  go_wp2
  refine bodyPost_ret (v := .tuple #[.agg #[.slice a1 n c1, .slice a2 n c2], .bool true]) (by simp [results, Try.results10, go_sem, r0, r1]) rfl ⟨_, _, rfl, X4.out.answer P4.out lg lb _ _, ?_, ?_⟩
  · have BF := (B4.out.set (p := ⟨w.heap.size + 2, 0, none⟩) (by show w.heap.size ≤ w.heap.size + 2; omega) lg (.slice a1 n c1)).set (p := ⟨w.heap.size + 2, 1, none⟩) (by show w.heap.size ≤ w.heap.size + 2; omega) lg (.slice a2 n c2)
    exact ⟨_, _, _, _, rfl, rfl, BF.lst L1.out O12.out.1, BF.lst L2.out O12.out.2, C12.out.1, C12.out.2, O12.out.1, O12.out.2⟩
  · exact (B4.out.set (p := ⟨w.heap.size + 2, 0, none⟩) (by show w.heap.size ≤ w.heap.size + 2; omega) lg (.slice a1 n c1)).set (p := ⟨w.heap.size + 2, 1, none⟩) (by show w.heap.size ≤ w.heap.size + 2; omega) lg (.slice a2 n c2)

set_option maxRecDepth 100000 in
set_option maxHeartbeats 3200000 in
theorem stepA_get_some (g b n k : Nat) (kd : Int) (d1 : (kd == 1) = false) (d2 : (kd == 2) = false) (d3 : (kd == 3) = false) (x : Int) (s1 s2 : Value) (R M : List Int) (w : World) (hp : PoolAt w g b n R M) (hr : RefAt w g b n R M s1 s2) (hk : k < n) (ex : Ls.nth R k = x) (hx0 : 0 < x) :
    Calls Try.prog 10 #[.pointer (some ⟨g, 0, none⟩), .agg #[s1, s2], .agg #[.int .i64 kd, .int .i64 k]] w fun e w' => ∃ t1 t2, e = .returned (.tuple #[.agg #[t1, t2], .bool true]) ∧ PoolAt w' g b n R M ∧ RefAt w' g b n R M t1 t2 ∧ But2 g b w w' := by
  obtain ⟨a1, c1, a2, c2, rfl, rfl, hL1, hL2, hC1, hC2, hO1, hO2⟩ := hr
  obtain ⟨nbg, lR, lM, hn, hnn⟩ := hp.nums
  obtain ⟨lg, lb⟩ := hp.lt
  have HP : Hid (PoolAt w g b n R M) := hp
  have L1 : Hid (Lst .i64 w a1 R) := hL1
  have L2 : Hid (Lst .i64 w a2 M) := hL2
  have C12 : Hid ((a1 = none → c1 = 0) ∧ (a2 = none → c2 = 0)) := ⟨hC1, hC2⟩
  have O12 : Hid (Off g b a1 ∧ Off g b a2) := ⟨hO1, hO2⟩
  have LR : Hid (R.length = n ∧ M.length = n) := ⟨lR, lM⟩
  have EX : Hid (Ls.nth R k = x) := ex
  have HR : Hid (0 < Ls.nth R k) := by show 0 < Ls.nth R k; rw [ex]; omega
  clear hp hL1 hL2 hC1 hC2 hO1 hO2 lR lM hnn ex
  go_enter Try.func10, Try.ntmps10
  go_wp2_with fail
  obtain ⟨u, hu⟩ : ∃ u, ((w.alloc (.cells #[.slice a1 n c1, .slice a2 n c2] 30)).alloc (.cells #[.int .i64 kd, .int .i64 k] 33)).alloc (.cells #[.slice none 0 0, .slice none 0 0] 30) = u := ⟨_, rfl⟩
  have UB : Hid (Below w.heap.size w u) := by rw [← hu]; exact three_below _ _ _ _
  have US : u.heap.size = w.heap.size + 3 := by rw [← hu]; exact three_size _ _ _ _
  have UX : Hid (Bx u w.heap.size (.slice a1 n c1) (.slice a2 n c2) kd k) := by rw [← hu]; exact bx_new _ _ _ _ _
  rw [hu]
  clear hu
  refine (get_some g b n k R M u (HP.out.keep UB.out) hk HR.out).mono ?_
  rintro e w1 ⟨q, rfl, hq, hww⟩
  cases hww.symm
  clear hww
  have Q3 : Hid (PgM u q (Ls.nth M k)) := hq
  clear hq
  obtain ⟨⟨x0, x1⟩, ⟨o0, o1⟩, ⟨r0, r1⟩⟩ := UX.out.cells
  obtain ⟨⟨f0, f1⟩, ⟨e0, e1⟩⟩ := UX.out.open
  go_wp2_with fail
  clear x0 x1 o0 o1 r0 r1 f0 f1 e0 e1
  refine (refIs_yes a1 a2 n c1 n c2 k R u (L1.out.keep UB.out) LR.out.1 hk HR.out).mono ?_
  rintro e v1 ⟨rfl, hB⟩
  have X2 : Hid (Bx v1 w.heap.size (.slice a1 n c1) (.slice a2 n c2) kd k) := UX.out.below hB
  have B2 : Hid (Below w.heap.size w v1) := below_then UB.out hB
  have Q4 : Hid (PgM v1 q (Ls.nth M k)) := Q3.out.keep hB
  clear hB
  obtain ⟨b1, o1, ea1, hg1⟩ := L1.out.get (show k < R.length by rw [LR.out.1]; exact hk)
  have sR := hg1 k (by rw [LR.out.1]; exact hk)
  have lR1 := World.block_lt_of_cell? w _ sR
  rw [EX.out] at sR
  obtain ⟨b2, o2, ea2, hg2⟩ := L2.out.get (show k < M.length by rw [LR.out.2]; exact hk)
  have sM := hg2 k (by rw [LR.out.2]; exact hk)
  have lM1 := World.block_lt_of_cell? w _ sM
  obtain ⟨mk, emk⟩ : ∃ mk, Ls.nth M k = mk := ⟨_, rfl⟩
  rw [emk] at sM Q4
  have SRM : Hid (w.cell? ⟨b1, o1 + k, none⟩ = some (.int .i64 x) ∧ w.cell? ⟨b2, o2 + k, none⟩ = some (.int .i64 mk)) := ⟨sR, sM⟩
  subst ea1 ea2
  clear hg1 hg2 sR sM emk Q3
  have KS : Hid (∀ w', Below (w.heap.size + 2) v1 w' → (((w'.cell? ⟨w.heap.size, 0, none⟩ = some (.slice (some ⟨b1, o1, none⟩) n c1) ∧ w'.cell? ⟨w.heap.size, 1, none⟩ = some (.slice (some ⟨b2, o2, none⟩) n c2)) ∧ w'.cell? ⟨w.heap.size + 1, 1, none⟩ = some (.int .i64 k)) ∧ w'.cell? ⟨b1, o1 + k, none⟩ = some (.int .i64 x) ∧ w'.cell? ⟨b2, o2 + k, none⟩ = some (.int .i64 mk))) := fun w' hb => ⟨X2.out.kp ⟨hb.block _ (by omega), hb.block _ (by omega)⟩, by rw [(B2.out.trans (hb.mono (by omega))).cell (p := ⟨b1, o1 + k, none⟩) lR1]; exact SRM.out.1, by rw [(B2.out.trans (hb.mono (by omega))).cell (p := ⟨b2, o2 + k, none⟩) lM1]; exact SRM.out.2⟩
  have hbc : Hid (Below v1.heap.size v1 v1.drew) := (Below.refl _ _).drew
  have hz2 := X2.out.size
  go_wp2_with fail
  go_region_held3 (fun w' => ((w'.cell? ⟨w.heap.size, 0, none⟩ = some (.slice (some ⟨b1, o1, none⟩) n c1) ∧ w'.cell? ⟨w.heap.size, 1, none⟩ = some (.slice (some ⟨b2, o2, none⟩) n c2)) ∧ w'.cell? ⟨w.heap.size + 1, 1, none⟩ = some (.int .i64 k)) ∧ w'.cell? ⟨b1, o1 + k, none⟩ = some (.int .i64 x) ∧ w'.cell? ⟨b2, o2 + k, none⟩ = some (.int .i64 mk))
    (first
      | exact KS.out _ (hbc.out.mono (by omega))
      | exact KS.out _ (((hbc.out.mono (by omega)).setCell (by simp) _).setCell (by simp) _)
      | assumption)
    (first
      | (go_at_call 21; (with_reducible refine (headM_any q mk _ (Q4.out.keep hbc.out)).mono ?_); (rintro e w2 ⟨h0, h1, h2, h3, h4, h5, rfl, hbel⟩; have hbc : Hid (Below v1.heap.size v1 w2) := below_then hbc.out hbel; have hfd := field_mark h0 h1 h2 h3 h4 h5 mk; clear hbel))
      | (go_at_call 22; (with_reducible refine (refs_some g b n k x R M _ (HP.out.keep (B2.out.trans (hbc.out.mono (by omega)))) hk EX.out hx0).mono ?_); (rintro e w3 ⟨rfl, hww⟩; cases hww.symm; clear hww; have X4 : Hid (Bx w2 w.heap.size (.slice (some ⟨b1, o1, none⟩) n c1) (.slice (some ⟨b2, o2, none⟩) n c2) kd k) := X2.out.below hbc.out; obtain ⟨_, _, ⟨r0, r1⟩⟩ := X4.out.cells; obtain ⟨_, ⟨e0, e1⟩⟩ := X4.out.open)))
  have P4 : Hid (PoolAt w2 g b n R M) := HP.out.keep (B2.out.trans (hbc.out.mono (by omega)))
  have B4 : Hid (But2 g b w w2) := But2.of_below (B2.out.trans (hbc.out.mono (by omega))) (by omega)
  go_wp2
  refine bodyPost_ret (v := .tuple #[.agg #[.slice (some ⟨b1, o1, none⟩) n c1, .slice (some ⟨b2, o2, none⟩) n c2], .bool true]) (by simp [results, Try.results10, go_sem, r0, r1]) rfl ⟨_, _, rfl, X4.out.answer P4.out lg lb _ _, ?_, ?_⟩
  · have BF := (B4.out.set (p := ⟨w.heap.size + 2, 0, none⟩) (by show w.heap.size ≤ w.heap.size + 2; omega) lg (.slice (some ⟨b1, o1, none⟩) n c1)).set (p := ⟨w.heap.size + 2, 1, none⟩) (by show w.heap.size ≤ w.heap.size + 2; omega) lg (.slice (some ⟨b2, o2, none⟩) n c2)
    exact ⟨_, _, _, _, rfl, rfl, BF.lst L1.out O12.out.1, BF.lst L2.out O12.out.2, C12.out.1, C12.out.2, O12.out.1, O12.out.2⟩
  · exact (B4.out.set (p := ⟨w.heap.size + 2, 0, none⟩) (by show w.heap.size ≤ w.heap.size + 2; omega) lg (.slice (some ⟨b1, o1, none⟩) n c1)).set (p := ⟨w.heap.size + 2, 1, none⟩) (by show w.heap.size ≤ w.heap.size + 2; omega) lg (.slice (some ⟨b2, o2, none⟩) n c2)

set_option maxRecDepth 100000 in
set_option maxHeartbeats 3200000 in
theorem stepA_get_none (g b n : Nat) (id : Int) (kd : Int) (d1 : (kd == 1) = false) (d2 : (kd == 2) = false) (d3 : (kd == 3) = false) (s1 s2 : Value) (R M : List Int) (w : World) (hp : PoolAt w g b n R M) (hr : RefAt w g b n R M s1 s2) (hno : ¬ (0 ≤ id ∧ id < n ∧ 0 < Ls.nth R id.toNat)) :
    Calls Try.prog 10 #[.pointer (some ⟨g, 0, none⟩), .agg #[s1, s2], .agg #[.int .i64 kd, .int .i64 id]] w fun e w' => ∃ t1 t2, e = .returned (.tuple #[.agg #[t1, t2], .bool true]) ∧ PoolAt w' g b n R M ∧ RefAt w' g b n R M t1 t2 ∧ But2 g b w w' := by
  obtain ⟨a1, c1, a2, c2, rfl, rfl, hL1, hL2, hC1, hC2, hO1, hO2⟩ := hr
  obtain ⟨nbg, lR, lM, hn, hnn⟩ := hp.nums
  obtain ⟨lg, lb⟩ := hp.lt
  have HP : Hid (PoolAt w g b n R M) := hp
  have L1 : Hid (Lst .i64 w a1 R) := hL1
  have L2 : Hid (Lst .i64 w a2 M) := hL2
  have C12 : Hid ((a1 = none → c1 = 0) ∧ (a2 = none → c2 = 0)) := ⟨hC1, hC2⟩
  have O12 : Hid (Off g b a1 ∧ Off g b a2) := ⟨hO1, hO2⟩
  have LR : Hid (R.length = n ∧ M.length = n) := ⟨lR, lM⟩
  have HN : Hid (¬ (0 ≤ id ∧ id < n ∧ 0 < Ls.nth R id.toNat)) := hno
  clear hp hL1 hL2 hC1 hC2 hO1 hO2 lR lM hnn hno
  go_enter Try.func10, Try.ntmps10
  go_wp2_with fail
  obtain ⟨u, hu⟩ : ∃ u, ((w.alloc (.cells #[.slice a1 n c1, .slice a2 n c2] 30)).alloc (.cells #[.int .i64 kd, .int .i64 id] 33)).alloc (.cells #[.slice none 0 0, .slice none 0 0] 30) = u := ⟨_, rfl⟩
  have UB : Hid (Below w.heap.size w u) := by rw [← hu]; exact three_below _ _ _ _
  have US : u.heap.size = w.heap.size + 3 := by rw [← hu]; exact three_size _ _ _ _
  have UX : Hid (Bx u w.heap.size (.slice a1 n c1) (.slice a2 n c2) kd id) := by rw [← hu]; exact bx_new _ _ _ _ _
  rw [hu]
  clear hu
  refine (get_none g b n id R M u (HP.out.keep UB.out) HN.out).mono ?_
  rintro e w1 ⟨rfl, hww⟩
  cases hww.symm
  clear hww
  obtain ⟨⟨x0, x1⟩, ⟨o0, o1⟩, ⟨r0, r1⟩⟩ := UX.out.cells
  obtain ⟨⟨f0, f1⟩, ⟨e0, e1⟩⟩ := UX.out.open
  go_wp2_with fail
  clear x0 x1 o0 o1 r0 r1 f0 f1 e0 e1
  refine (refIs_no a1 a2 n c1 n c2 id R u (L1.out.keep UB.out) LR.out.1 HN.out).mono ?_
  rintro e v1 ⟨rfl, hB⟩
  have X2 : Hid (Bx v1 w.heap.size (.slice a1 n c1) (.slice a2 n c2) kd id) := UX.out.below hB
  have B2 : Hid (Below w.heap.size w v1) := below_then UB.out hB
  clear hB
  have KS : Hid (∀ w', Below (w.heap.size + 2) v1 w' → ((w'.cell? ⟨w.heap.size, 0, none⟩ = some (.slice a1 n c1) ∧ w'.cell? ⟨w.heap.size, 1, none⟩ = some (.slice a2 n c2)) ∧ w'.cell? ⟨w.heap.size + 1, 1, none⟩ = some (.int .i64 id))) := fun w' hb => X2.out.kp ⟨hb.block _ (by omega), hb.block _ (by omega)⟩
  have hz2 := X2.out.size
  have hbc : Hid (Below (w.heap.size + 2) v1 v1.drew) := ((Below.refl v1.heap.size v1).mono (by omega)).drew
  go_wp2_with fail
  go_region_held3 (fun w' => (w'.cell? ⟨w.heap.size, 0, none⟩ = some (.slice a1 n c1) ∧ w'.cell? ⟨w.heap.size, 1, none⟩ = some (.slice a2 n c2)) ∧ w'.cell? ⟨w.heap.size + 1, 1, none⟩ = some (.int .i64 id))
    (first
      | exact KS.out _ hbc.out
      | exact KS.out _ ((hbc.out.setCell (by simp) _).setCell (by simp) _)
      | assumption)
    (first
      | (go_at_call 22; (with_reducible refine (refs_none g b n id R M _ (HP.out.keep B2.out.drew) HN.out).mono ?_); (rintro e w2 ⟨rfl, hww⟩; have P4 : Hid (PoolAt w2 g b n R M) := (by rw [hww]; exact HP.out.keep B2.out.drew); have X4 : Hid (Bx w2 w.heap.size (.slice a1 n c1) (.slice a2 n c2) kd id) := (by rw [hww]; exact X2.out.drew); have B4 : Hid (But2 g b w w2) := (by rw [hww]; exact But2.of_below (B2.out.drew) (by omega)); have hbc : Hid (Below (w.heap.size + 2) v1 w2) := (by rw [hww]; exact hbc.out); clear hww; obtain ⟨_, _, ⟨r0, r1⟩⟩ := X4.out.cells; obtain ⟨_, ⟨e0, e1⟩⟩ := X4.out.open)))
  go_wp2
  refine bodyPost_ret (v := .tuple #[.agg #[.slice a1 n c1, .slice a2 n c2], .bool true]) (by simp [results, Try.results10, go_sem, r0, r1]) rfl ⟨_, _, rfl, X4.out.answer P4.out lg lb _ _, ?_, ?_⟩
  · have BF := (B4.out.set (p := ⟨w.heap.size + 2, 0, none⟩) (by show w.heap.size ≤ w.heap.size + 2; omega) lg (.slice a1 n c1)).set (p := ⟨w.heap.size + 2, 1, none⟩) (by show w.heap.size ≤ w.heap.size + 2; omega) lg (.slice a2 n c2)
    exact ⟨_, _, _, _, rfl, rfl, BF.lst L1.out O12.out.1, BF.lst L2.out O12.out.2, C12.out.1, C12.out.2, O12.out.1, O12.out.2⟩
  · exact (B4.out.set (p := ⟨w.heap.size + 2, 0, none⟩) (by show w.heap.size ≤ w.heap.size + 2; omega) lg (.slice a1 n c1)).set (p := ⟨w.heap.size + 2, 1, none⟩) (by show w.heap.size ≤ w.heap.size + 2; omega) lg (.slice a2 n c2)
end Go.Proofs.Ytgpjmbhcfjafmaa
/- One call of layer 10's law, each kind and each way (the document plays no part). -/
namespace Go.Proofs.Ytgpjmbhcfjafmaa
set_option linter.unusedVariables false
set_option linter.unusedSimpArgs false
open Go.RowKit

set_option maxRecDepth 100000 in
set_option maxHeartbeats 3200000 in
theorem stepB_put_ok (g b n k : Nat) (N : Int) (s1 s2 : Value) (R M : List Int) (w : World) (hp : PoolAt w g b n R M) (hr : RefAt w g b 0 [] [] s1 s2) (hk : k < n) (h0 : Ls.nth R k = 0) (hl : ∀ i, i < k → ¬ Ls.nth R i = 0) :
    Calls Try.prog 10 #[.pointer (some ⟨g, 0, none⟩), .agg #[s1, s2], .agg #[.int .i64 1, .int .i64 N]] w fun e w' => ∃ v, e = .returned v ∧ PoolAt w' g b n (R.set k 1) (M.set k (Po.mk N)) ∧ But2 g b w w' := by
  obtain ⟨a1, c1, a2, c2, rfl, rfl, hL1, hL2, hC1, hC2, hO1, hO2⟩ := hr
  obtain ⟨nbg, lR, lM, hn, hnn⟩ := hp.nums
  obtain ⟨lg, lb⟩ := hp.lt
  have HP : Hid (PoolAt w g b n R M) := hp
  have L1 : Hid (Lst .i64 w a1 []) := hL1
  have L2 : Hid (Lst .i64 w a2 []) := hL2
  have C12 : Hid ((a1 = none → c1 = 0) ∧ (a2 = none → c2 = 0)) := ⟨hC1, hC2⟩
  have O12 : Hid (Off g b a1 ∧ Off g b a2) := ⟨hO1, hO2⟩
  have LR : Hid (R.length = n ∧ M.length = n) := ⟨lR, lM⟩
  have H0 : Hid (Ls.nth R k = 0) := h0
  have HL : Hid (∀ i, i < k → ¬ Ls.nth R i = 0) := hl
  have hbm := bits_mark N
  obtain ⟨m, em⟩ : ∃ m, Po.mk N = m := ⟨_, rfl⟩
  have EM : Hid (Po.mk N = m) := em
  rw [em] at hbm ⊢
  obtain ⟨q0, eq0⟩ : ∃ q0, (((k : Int)) == 0) = q0 := ⟨_, rfl⟩
  clear hp hL1 hL2 hC1 hC2 hO1 hO2 lR lM hnn h0 hl em
  go_enter Try.func10, Try.ntmps10
  go_wp2_with fail
  obtain ⟨u, hu⟩ : ∃ u, ((w.alloc (.cells #[.slice a1 0 c1, .slice a2 0 c2] 30)).alloc (.cells #[.int .i64 1, .int .i64 N] 33)).alloc (.cells #[.slice none 0 0, .slice none 0 0] 30) = u := ⟨_, rfl⟩
  have UB : Hid (Below w.heap.size w u) := by rw [← hu]; exact three_below _ _ _ _
  have US : u.heap.size = w.heap.size + 3 := by rw [← hu]; exact three_size _ _ _ _
  have UX : Hid (Bx u w.heap.size (.slice a1 0 c1) (.slice a2 0 c2) 1 N) := by rw [← hu]; exact bx_new _ _ _ _ _
  rw [hu]
  clear hu
  refine (refPut_full a1 a2 0 c1 0 c2 m [] u (L1.out.keep UB.out) rfl (by omega) (fun i hi => by omega)).mono ?_
  rintro e w1 ⟨rfl, hB⟩
  have X1 : Hid (Bx w1 w.heap.size (.slice a1 0 c1) (.slice a2 0 c2) 1 N) := UX.out.below hB
  have B1 : Hid (Below w.heap.size w w1) := below_then UB.out hB
  clear hB
  obtain ⟨⟨x0, x1⟩, ⟨o0, o1⟩, ⟨r0, r1⟩⟩ := X1.out.cells
  obtain ⟨⟨f0, f1⟩, ⟨e0, e1⟩⟩ := X1.out.open
  go_wp2_with fail
  clear x0 x1 o0 o1 r0 r1 f0 f1 e0 e1
  obtain ⟨v1, hv1⟩ : ∃ v, ((w1.setCell ⟨w.heap.size, 0, none⟩ (.slice a1 0 c1)).setCell ⟨w.heap.size, 1, none⟩ (.slice a2 0 c2)) = v := ⟨_, rfl⟩
  have X2 : Hid (Bx v1 w.heap.size (.slice a1 0 c1) (.slice a2 0 c2) 1 N) := by rw [← hv1]; exact X1.out.put _ _
  have B2 : Hid (Below w.heap.size w v1) := by rw [← hv1]; exact (B1.out.setCell (by simp) _).setCell (by simp) _
  have U2 : Hid (Up (w.heap.size + 3) w1 v1) := by rw [← hv1]; exact ((Up.refl _ _).set (by show w.heap.size < _; omega) _).set (by show w.heap.size < _; omega) _
  rw [hv1]
  clear hv1 X1 B1
  refine (made_any N v1).mono ?_
  rintro e w2 ⟨q, rfl, hq, hlt, hbel⟩
  rw [EM.out] at hq
  have hs2 := B2.out.size
  have Q3 : Hid (PgM w2 q m ∧ ¬ q = g ∧ ¬ q = b) := ⟨hq, by omega, by omega⟩
  have X3 : Hid (Bx w2 w.heap.size (.slice a1 0 c1) (.slice a2 0 c2) 1 N) := X2.out.below hbel
  have B3 : Hid (Below w.heap.size w w2) := below_then B2.out hbel
  have U3 : Hid (Up (w.heap.size + 3) w1 w2) := U2.out.below hbel
  clear hq hlt hbel X2 B2 U2
  go_wp2_with fail
  refine (put_ok g b n k q m R M w2 (HP.out.keep B3.out) hk H0.out HL.out Q3.out.1 Q3.out.2.1 Q3.out.2.2).mono ?_
  rintro e w3 ⟨rfl, hp, hbt⟩
  have P4 : Hid (PoolAt w3 g b n (R.set k 1) (M.set k (m))) := hp
  have X4 : Hid (Bx w3 w.heap.size (.slice a1 0 c1) (.slice a2 0 c2) 1 N) := X3.out.but hbt lg lb
  have B4 : Hid (But2 g b w w3) := (But2.of_below B3.out (by omega)).trans hbt
  have U4 : Hid (Up (w.heap.size + 3) w1 w3) := U3.out.but hbt (by omega) (by omega)
  clear hp hbt X3 B3 U3
  obtain ⟨⟨x0, x1⟩, ⟨o0, o1⟩, ⟨r0, r1⟩⟩ := X4.out.cells
  obtain ⟨⟨f0, f1⟩, ⟨e0, e1⟩⟩ := X4.out.open
  cases q0
  all_goals (go_wp2; refine bodyPost_ret (v := .tuple #[.agg #[.slice a1 0 c1, .slice a2 0 c2], .bool false]) (by simp [results, Try.results10, go_sem, r0, r1]) rfl ⟨_, rfl, X4.out.answer P4.out lg lb _ _, ?_⟩; exact (B4.out.set (p := ⟨w.heap.size + 2, 0, none⟩) (by show w.heap.size ≤ w.heap.size + 2; omega) lg _).set (p := ⟨w.heap.size + 2, 1, none⟩) (by show w.heap.size ≤ w.heap.size + 2; omega) lg _)

set_option maxRecDepth 100000 in
set_option maxHeartbeats 3200000 in
theorem stepB_put_full (g b n : Nat) (N : Int) (s1 s2 : Value) (R M : List Int) (w : World) (hp : PoolAt w g b n R M) (hr : RefAt w g b 0 [] [] s1 s2) (hl : ∀ i, i < R.length → ¬ Ls.nth R i = 0) :
    Calls Try.prog 10 #[.pointer (some ⟨g, 0, none⟩), .agg #[s1, s2], .agg #[.int .i64 1, .int .i64 N]] w fun e w' => ∃ v, e = .returned v ∧ PoolAt w' g b n R M ∧ But2 g b w w' := by
  obtain ⟨a1, c1, a2, c2, rfl, rfl, hL1, hL2, hC1, hC2, hO1, hO2⟩ := hr
  obtain ⟨nbg, lR, lM, hn, hnn⟩ := hp.nums
  obtain ⟨lg, lb⟩ := hp.lt
  have HP : Hid (PoolAt w g b n R M) := hp
  have L1 : Hid (Lst .i64 w a1 []) := hL1
  have L2 : Hid (Lst .i64 w a2 []) := hL2
  have C12 : Hid ((a1 = none → c1 = 0) ∧ (a2 = none → c2 = 0)) := ⟨hC1, hC2⟩
  have O12 : Hid (Off g b a1 ∧ Off g b a2) := ⟨hO1, hO2⟩
  have LR : Hid (R.length = n ∧ M.length = n) := ⟨lR, lM⟩
  have HL : Hid (∀ i, i < n → ¬ Ls.nth R i = 0) := by rw [lR] at hl; exact hl
  have hbm := bits_mark N
  obtain ⟨m, em⟩ : ∃ m, Po.mk N = m := ⟨_, rfl⟩
  have EM : Hid (Po.mk N = m) := em
  rw [em] at hbm
  clear hp hL1 hL2 hC1 hC2 hO1 hO2 lR lM hnn hl em
  go_enter Try.func10, Try.ntmps10
  go_wp2_with fail
  obtain ⟨u, hu⟩ : ∃ u, ((w.alloc (.cells #[.slice a1 0 c1, .slice a2 0 c2] 30)).alloc (.cells #[.int .i64 1, .int .i64 N] 33)).alloc (.cells #[.slice none 0 0, .slice none 0 0] 30) = u := ⟨_, rfl⟩
  have UB : Hid (Below w.heap.size w u) := by rw [← hu]; exact three_below _ _ _ _
  have US : u.heap.size = w.heap.size + 3 := by rw [← hu]; exact three_size _ _ _ _
  have UX : Hid (Bx u w.heap.size (.slice a1 0 c1) (.slice a2 0 c2) 1 N) := by rw [← hu]; exact bx_new _ _ _ _ _
  rw [hu]
  clear hu
  refine (refPut_full a1 a2 0 c1 0 c2 m [] u (L1.out.keep UB.out) rfl (by omega) (fun i hi => by omega)).mono ?_
  rintro e w1 ⟨rfl, hB⟩
  have X1 : Hid (Bx w1 w.heap.size (.slice a1 0 c1) (.slice a2 0 c2) 1 N) := UX.out.below hB
  have B1 : Hid (Below w.heap.size w w1) := below_then UB.out hB
  clear hB
  obtain ⟨⟨x0, x1⟩, ⟨o0, o1⟩, ⟨r0, r1⟩⟩ := X1.out.cells
  obtain ⟨⟨f0, f1⟩, ⟨e0, e1⟩⟩ := X1.out.open
  go_wp2_with fail
  clear x0 x1 o0 o1 r0 r1 f0 f1 e0 e1
  obtain ⟨v1, hv1⟩ : ∃ v, ((w1.setCell ⟨w.heap.size, 0, none⟩ (.slice a1 0 c1)).setCell ⟨w.heap.size, 1, none⟩ (.slice a2 0 c2)) = v := ⟨_, rfl⟩
  have X2 : Hid (Bx v1 w.heap.size (.slice a1 0 c1) (.slice a2 0 c2) 1 N) := by rw [← hv1]; exact X1.out.put _ _
  have B2 : Hid (Below w.heap.size w v1) := by rw [← hv1]; exact (B1.out.setCell (by simp) _).setCell (by simp) _
  have U2 : Hid (Up (w.heap.size + 3) w1 v1) := by rw [← hv1]; exact ((Up.refl _ _).set (by show w.heap.size < _; omega) _).set (by show w.heap.size < _; omega) _
  rw [hv1]
  clear hv1 X1 B1
  refine (made_any N v1).mono ?_
  rintro e w2 ⟨q, rfl, hq, hlt, hbel⟩
  rw [EM.out] at hq
  have hs2 := B2.out.size
  have Q3 : Hid (PgM w2 q m ∧ ¬ q = g ∧ ¬ q = b) := ⟨hq, by omega, by omega⟩
  have X3 : Hid (Bx w2 w.heap.size (.slice a1 0 c1) (.slice a2 0 c2) 1 N) := X2.out.below hbel
  have B3 : Hid (Below w.heap.size w w2) := below_then B2.out hbel
  have U3 : Hid (Up (w.heap.size + 3) w1 w2) := U2.out.below hbel
  clear hq hlt hbel X2 B2 U2
  go_wp2_with fail
  refine (put_full g b n _ R M w2 (HP.out.keep B3.out) (by rw [LR.out.1]; exact HL.out)).mono ?_
  rintro e w3 ⟨rfl, hww⟩
  have P4 : Hid (PoolAt w3 g b n R M) := by rw [hww]; exact HP.out.keep B3.out
  have X4 : Hid (Bx w3 w.heap.size (.slice a1 0 c1) (.slice a2 0 c2) 1 N) := by rw [hww]; exact X3.out
  have B4 : Hid (But2 g b w w3) := by rw [hww]; exact But2.of_below B3.out (by omega)
  have U4 : Hid (Up (w.heap.size + 3) w1 w3) := by rw [hww]; exact U3.out
  clear X3 B3 U3 hww
  obtain ⟨⟨x0, x1⟩, ⟨o0, o1⟩, ⟨r0, r1⟩⟩ := X4.out.cells
  obtain ⟨⟨f0, f1⟩, ⟨e0, e1⟩⟩ := X4.out.open
  go_wp2
  refine bodyPost_ret (v := .tuple #[.agg #[.slice a1 0 c1, .slice a2 0 c2], .bool true]) (by simp [results, Try.results10, go_sem, r0, r1]) rfl ⟨_, rfl, X4.out.answer P4.out lg lb _ _, ?_⟩
  exact (B4.out.set (p := ⟨w.heap.size + 2, 0, none⟩) (by show w.heap.size ≤ w.heap.size + 2; omega) lg _).set (p := ⟨w.heap.size + 2, 1, none⟩) (by show w.heap.size ≤ w.heap.size + 2; omega) lg _

set_option maxRecDepth 100000 in
set_option maxHeartbeats 3200000 in
theorem stepB_hold_ok (g b n k : Nat) (x : Int) (s1 s2 : Value) (R M : List Int) (w : World) (hp : PoolAt w g b n R M) (hr : RefAt w g b 0 [] [] s1 s2) (hk : k < n) (ex : Ls.nth R k = x) (hx0 : 0 < x) (hx1 : x < 100000) :
    Calls Try.prog 10 #[.pointer (some ⟨g, 0, none⟩), .agg #[s1, s2], .agg #[.int .i64 2, .int .i64 k]] w fun e w' => ∃ v, e = .returned v ∧ PoolAt w' g b n (R.set k (x + 1)) M ∧ But2 g b w w' := by
  obtain ⟨a1, c1, a2, c2, rfl, rfl, hL1, hL2, hC1, hC2, hO1, hO2⟩ := hr
  obtain ⟨nbg, lR, lM, hn, hnn⟩ := hp.nums
  obtain ⟨lg, lb⟩ := hp.lt
  have HP : Hid (PoolAt w g b n R M) := hp
  have L1 : Hid (Lst .i64 w a1 []) := hL1
  have L2 : Hid (Lst .i64 w a2 []) := hL2
  have C12 : Hid ((a1 = none → c1 = 0) ∧ (a2 = none → c2 = 0)) := ⟨hC1, hC2⟩
  have O12 : Hid (Off g b a1 ∧ Off g b a2) := ⟨hO1, hO2⟩
  have LR : Hid (R.length = n ∧ M.length = n) := ⟨lR, lM⟩
  have EX : Hid (Ls.nth R k = x) := ex
  have HR : Hid (0 < Ls.nth R k) := by show 0 < Ls.nth R k; rw [ex]; omega
  obtain ⟨y, ey⟩ : ∃ y, x + 1 = y := ⟨_, rfl⟩
  have EY : Hid (x + 1 = y) := ey
  rw [ey]
  clear hp hL1 hL2 hC1 hC2 hO1 hO2 lR lM hnn ex ey
  go_enter Try.func10, Try.ntmps10
  go_wp2_with fail
  obtain ⟨u, hu⟩ : ∃ u, ((w.alloc (.cells #[.slice a1 0 c1, .slice a2 0 c2] 30)).alloc (.cells #[.int .i64 2, .int .i64 k] 33)).alloc (.cells #[.slice none 0 0, .slice none 0 0] 30) = u := ⟨_, rfl⟩
  have UB : Hid (Below w.heap.size w u) := by rw [← hu]; exact three_below _ _ _ _
  have US : u.heap.size = w.heap.size + 3 := by rw [← hu]; exact three_size _ _ _ _
  have UX : Hid (Bx u w.heap.size (.slice a1 0 c1) (.slice a2 0 c2) 2 k) := by rw [← hu]; exact bx_new _ _ _ _ _
  rw [hu]
  clear hu
  refine (refChange_none a1 a2 0 c1 0 c2 k 1 [] u (L1.out.keep UB.out) rfl (fun q => by omega)).mono ?_
  rintro e w1 ⟨rfl, hB⟩
  have X1 : Hid (Bx w1 w.heap.size (.slice a1 0 c1) (.slice a2 0 c2) 2 k) := UX.out.below hB
  have B1 : Hid (Below w.heap.size w w1) := below_then UB.out hB
  clear hB
  obtain ⟨⟨x0, x1⟩, ⟨o0, o1⟩, ⟨r0, r1⟩⟩ := X1.out.cells
  obtain ⟨⟨f0, f1⟩, ⟨e0, e1⟩⟩ := X1.out.open
  go_wp2_with fail
  clear x0 x1 o0 o1 r0 r1 f0 f1 e0 e1
  obtain ⟨v1, hv1⟩ : ∃ v, ((w1.setCell ⟨w.heap.size, 0, none⟩ (.slice a1 0 c1)).setCell ⟨w.heap.size, 1, none⟩ (.slice a2 0 c2)) = v := ⟨_, rfl⟩
  have X2 : Hid (Bx v1 w.heap.size (.slice a1 0 c1) (.slice a2 0 c2) 2 k) := by rw [← hv1]; exact X1.out.put _ _
  have B2 : Hid (Below w.heap.size w v1) := by rw [← hv1]; exact (B1.out.setCell (by simp) _).setCell (by simp) _
  have U2 : Hid (Up (w.heap.size + 3) w1 v1) := by rw [← hv1]; exact ((Up.refl _ _).set (by show w.heap.size < _; omega) _).set (by show w.heap.size < _; omega) _
  rw [hv1]
  clear hv1 X1 B1
  have KS : Hid (∀ w', Kp2 w.heap.size v1 w' → (w'.cell? ⟨w.heap.size, 0, none⟩ = some (.slice a1 0 c1) ∧ w'.cell? ⟨w.heap.size, 1, none⟩ = some (.slice a2 0 c2)) ∧ w'.cell? ⟨w.heap.size + 1, 1, none⟩ = some (.int .i64 k)) := fun w' hk => X2.out.kp hk
  have hkc : Hid (Kp2 w.heap.size v1 v1.drew) := Kp2.drew _ _
  go_wp2_with fail
  go_region_held3 (fun w' => (w'.cell? ⟨w.heap.size, 0, none⟩ = some (.slice a1 0 c1) ∧ w'.cell? ⟨w.heap.size, 1, none⟩ = some (.slice a2 0 c2)) ∧ w'.cell? ⟨w.heap.size + 1, 1, none⟩ = some (.int .i64 k))
    (first
      | exact KS.out _ hkc.out
      | exact KS.out _ (hkc.out.set _ _)
      | assumption)
    (first
      | (go_at_call 19; (with_reducible refine (hold_some g b n k x R M _ (HP.out.keep B2.out.drew) hk EX.out hx0 (by omega)).mono ?_); (rintro e w2 ⟨rfl, hp, hbt⟩; rw [EY.out] at hp; have P4 : Hid (PoolAt w2 g b n (R.set k y) M) := hp; have X4 : Hid (Bx w2 w.heap.size (.slice a1 0 c1) (.slice a2 0 c2) 2 k) := X2.out.drew.but hbt lg lb; have B4 : Hid (But2 g b w w2) := (But2.of_below (B2.out.drew) (by omega)).trans hbt; have U4 : Hid (Up (w.heap.size + 3) w1 w2) := (U2.out.below ((Below.refl _ _).drew)).but hbt (by omega) (by omega); have hkc : Hid (Kp2 w.heap.size v1 w2) := hkc.out.but hbt lg lb X2.out.drew.size; obtain ⟨_, _, ⟨r0, r1⟩⟩ := X4.out.cells; obtain ⟨_, ⟨e0, e1⟩⟩ := X4.out.open; clear hp hbt)))
  go_wp2
  refine bodyPost_ret (v := .tuple #[.agg #[.slice a1 0 c1, .slice a2 0 c2], .bool false]) (by simp [results, Try.results10, go_sem, r0, r1]) rfl ⟨_, rfl, X4.out.answer P4.out lg lb _ _, ?_⟩
  exact (B4.out.set (p := ⟨w.heap.size + 2, 0, none⟩) (by show w.heap.size ≤ w.heap.size + 2; omega) lg _).set (p := ⟨w.heap.size + 2, 1, none⟩) (by show w.heap.size ≤ w.heap.size + 2; omega) lg _

set_option maxRecDepth 100000 in
set_option maxHeartbeats 3200000 in
theorem stepB_hold_none (g b n : Nat) (id : Int) (s1 s2 : Value) (R M : List Int) (w : World) (hp : PoolAt w g b n R M) (hr : RefAt w g b 0 [] [] s1 s2) (hno : ¬ (0 ≤ id ∧ id < n ∧ 0 < Ls.nth R id.toNat)) :
    Calls Try.prog 10 #[.pointer (some ⟨g, 0, none⟩), .agg #[s1, s2], .agg #[.int .i64 2, .int .i64 id]] w fun e w' => ∃ v, e = .returned v ∧ PoolAt w' g b n R M ∧ But2 g b w w' := by
  obtain ⟨a1, c1, a2, c2, rfl, rfl, hL1, hL2, hC1, hC2, hO1, hO2⟩ := hr
  obtain ⟨nbg, lR, lM, hn, hnn⟩ := hp.nums
  obtain ⟨lg, lb⟩ := hp.lt
  have HP : Hid (PoolAt w g b n R M) := hp
  have L1 : Hid (Lst .i64 w a1 []) := hL1
  have L2 : Hid (Lst .i64 w a2 []) := hL2
  have C12 : Hid ((a1 = none → c1 = 0) ∧ (a2 = none → c2 = 0)) := ⟨hC1, hC2⟩
  have O12 : Hid (Off g b a1 ∧ Off g b a2) := ⟨hO1, hO2⟩
  have LR : Hid (R.length = n ∧ M.length = n) := ⟨lR, lM⟩
  have HN : Hid (¬ (0 ≤ id ∧ id < n ∧ 0 < Ls.nth R id.toNat)) := hno
  clear hp hL1 hL2 hC1 hC2 hO1 hO2 lR lM hnn hno
  go_enter Try.func10, Try.ntmps10
  go_wp2_with fail
  obtain ⟨u, hu⟩ : ∃ u, ((w.alloc (.cells #[.slice a1 0 c1, .slice a2 0 c2] 30)).alloc (.cells #[.int .i64 2, .int .i64 id] 33)).alloc (.cells #[.slice none 0 0, .slice none 0 0] 30) = u := ⟨_, rfl⟩
  have UB : Hid (Below w.heap.size w u) := by rw [← hu]; exact three_below _ _ _ _
  have US : u.heap.size = w.heap.size + 3 := by rw [← hu]; exact three_size _ _ _ _
  have UX : Hid (Bx u w.heap.size (.slice a1 0 c1) (.slice a2 0 c2) 2 id) := by rw [← hu]; exact bx_new _ _ _ _ _
  rw [hu]
  clear hu
  refine (refChange_none a1 a2 0 c1 0 c2 id 1 [] u (L1.out.keep UB.out) rfl (fun q => by omega)).mono ?_
  rintro e w1 ⟨rfl, hB⟩
  have X1 : Hid (Bx w1 w.heap.size (.slice a1 0 c1) (.slice a2 0 c2) 2 id) := UX.out.below hB
  have B1 : Hid (Below w.heap.size w w1) := below_then UB.out hB
  clear hB
  obtain ⟨⟨x0, x1⟩, ⟨o0, o1⟩, ⟨r0, r1⟩⟩ := X1.out.cells
  obtain ⟨⟨f0, f1⟩, ⟨e0, e1⟩⟩ := X1.out.open
  go_wp2_with fail
  clear x0 x1 o0 o1 r0 r1 f0 f1 e0 e1
  obtain ⟨v1, hv1⟩ : ∃ v, ((w1.setCell ⟨w.heap.size, 0, none⟩ (.slice a1 0 c1)).setCell ⟨w.heap.size, 1, none⟩ (.slice a2 0 c2)) = v := ⟨_, rfl⟩
  have X2 : Hid (Bx v1 w.heap.size (.slice a1 0 c1) (.slice a2 0 c2) 2 id) := by rw [← hv1]; exact X1.out.put _ _
  have B2 : Hid (Below w.heap.size w v1) := by rw [← hv1]; exact (B1.out.setCell (by simp) _).setCell (by simp) _
  have U2 : Hid (Up (w.heap.size + 3) w1 v1) := by rw [← hv1]; exact ((Up.refl _ _).set (by show w.heap.size < _; omega) _).set (by show w.heap.size < _; omega) _
  rw [hv1]
  clear hv1 X1 B1
  have KS : Hid (∀ w', Kp2 w.heap.size v1 w' → (w'.cell? ⟨w.heap.size, 0, none⟩ = some (.slice a1 0 c1) ∧ w'.cell? ⟨w.heap.size, 1, none⟩ = some (.slice a2 0 c2)) ∧ w'.cell? ⟨w.heap.size + 1, 1, none⟩ = some (.int .i64 id)) := fun w' hk => X2.out.kp hk
  have hkc : Hid (Kp2 w.heap.size v1 v1.drew) := Kp2.drew _ _
  go_wp2_with fail
  go_region_held3 (fun w' => (w'.cell? ⟨w.heap.size, 0, none⟩ = some (.slice a1 0 c1) ∧ w'.cell? ⟨w.heap.size, 1, none⟩ = some (.slice a2 0 c2)) ∧ w'.cell? ⟨w.heap.size + 1, 1, none⟩ = some (.int .i64 id))
    (first
      | exact KS.out _ hkc.out
      | exact KS.out _ (hkc.out.set _ _)
      | assumption)
    (first
      | (go_at_call 19; (with_reducible refine (hold_none g b n id R M _ (HP.out.keep B2.out.drew) HN.out).mono ?_); (rintro e w2 ⟨rfl, hww⟩; have P4 : Hid (PoolAt w2 g b n R M) := (by rw [hww]; exact HP.out.keep B2.out.drew); have X4 : Hid (Bx w2 w.heap.size (.slice a1 0 c1) (.slice a2 0 c2) 2 id) := (by rw [hww]; exact X2.out.drew); have B4 : Hid (But2 g b w w2) := (by rw [hww]; exact But2.of_below (B2.out.drew) (by omega)); have U4 : Hid (Up (w.heap.size + 3) w1 w2) := (by rw [hww]; exact U2.out.below ((Below.refl _ _).drew)); have hkc : Hid (Kp2 w.heap.size v1 w2) := (by rw [hww]; exact Kp2.drew _ _); clear hww; obtain ⟨_, _, ⟨r0, r1⟩⟩ := X4.out.cells; obtain ⟨_, ⟨e0, e1⟩⟩ := X4.out.open)))
  go_wp2
  refine bodyPost_ret (v := .tuple #[.agg #[.slice a1 0 c1, .slice a2 0 c2], .bool true]) (by simp [results, Try.results10, go_sem, r0, r1]) rfl ⟨_, rfl, X4.out.answer P4.out lg lb _ _, ?_⟩
  exact (B4.out.set (p := ⟨w.heap.size + 2, 0, none⟩) (by show w.heap.size ≤ w.heap.size + 2; omega) lg _).set (p := ⟨w.heap.size + 2, 1, none⟩) (by show w.heap.size ≤ w.heap.size + 2; omega) lg _

set_option maxRecDepth 100000 in
set_option maxHeartbeats 3200000 in
theorem stepB_drop_more (g b n k : Nat) (x : Int) (s1 s2 : Value) (R M : List Int) (w : World) (hp : PoolAt w g b n R M) (hr : RefAt w g b 0 [] [] s1 s2) (hk : k < n) (ex : Ls.nth R k = x) (hx0 : 1 < x) (hx1 : x < 100000) :
    Calls Try.prog 10 #[.pointer (some ⟨g, 0, none⟩), .agg #[s1, s2], .agg #[.int .i64 3, .int .i64 k]] w fun e w' => ∃ v, e = .returned v ∧ PoolAt w' g b n (R.set k (x - 1)) M ∧ But2 g b w w' := by
  obtain ⟨a1, c1, a2, c2, rfl, rfl, hL1, hL2, hC1, hC2, hO1, hO2⟩ := hr
  obtain ⟨nbg, lR, lM, hn, hnn⟩ := hp.nums
  obtain ⟨lg, lb⟩ := hp.lt
  have HP : Hid (PoolAt w g b n R M) := hp
  have L1 : Hid (Lst .i64 w a1 []) := hL1
  have L2 : Hid (Lst .i64 w a2 []) := hL2
  have C12 : Hid ((a1 = none → c1 = 0) ∧ (a2 = none → c2 = 0)) := ⟨hC1, hC2⟩
  have O12 : Hid (Off g b a1 ∧ Off g b a2) := ⟨hO1, hO2⟩
  have LR : Hid (R.length = n ∧ M.length = n) := ⟨lR, lM⟩
  have EX : Hid (Ls.nth R k = x) := ex
  have HR : Hid (0 < Ls.nth R k) := by show 0 < Ls.nth R k; rw [ex]; omega
  obtain ⟨y, ey⟩ : ∃ y, x - 1 = y := ⟨_, rfl⟩
  have EY : Hid (x - 1 = y) := ey
  have EY2 : Hid (x + -1 = y) := by show _ = _; omega
  rw [ey]
  clear hp hL1 hL2 hC1 hC2 hO1 hO2 lR lM hnn ex ey
  go_enter Try.func10, Try.ntmps10
  go_wp2_with fail
  obtain ⟨u, hu⟩ : ∃ u, ((w.alloc (.cells #[.slice a1 0 c1, .slice a2 0 c2] 30)).alloc (.cells #[.int .i64 3, .int .i64 k] 33)).alloc (.cells #[.slice none 0 0, .slice none 0 0] 30) = u := ⟨_, rfl⟩
  have UB : Hid (Below w.heap.size w u) := by rw [← hu]; exact three_below _ _ _ _
  have US : u.heap.size = w.heap.size + 3 := by rw [← hu]; exact three_size _ _ _ _
  have UX : Hid (Bx u w.heap.size (.slice a1 0 c1) (.slice a2 0 c2) 3 k) := by rw [← hu]; exact bx_new _ _ _ _ _
  rw [hu]
  clear hu
  refine (refChange_none a1 a2 0 c1 0 c2 k (-1) [] u (L1.out.keep UB.out) rfl (fun q => by omega)).mono ?_
  rintro e w1 ⟨rfl, hB⟩
  have X1 : Hid (Bx w1 w.heap.size (.slice a1 0 c1) (.slice a2 0 c2) 3 k) := UX.out.below hB
  have B1 : Hid (Below w.heap.size w w1) := below_then UB.out hB
  clear hB
  obtain ⟨⟨x0, x1⟩, ⟨o0, o1⟩, ⟨r0, r1⟩⟩ := X1.out.cells
  obtain ⟨⟨f0, f1⟩, ⟨e0, e1⟩⟩ := X1.out.open
  go_wp2_with fail
  clear x0 x1 o0 o1 r0 r1 f0 f1 e0 e1
  obtain ⟨v1, hv1⟩ : ∃ v, ((w1.setCell ⟨w.heap.size, 0, none⟩ (.slice a1 0 c1)).setCell ⟨w.heap.size, 1, none⟩ (.slice a2 0 c2)) = v := ⟨_, rfl⟩
  have X2 : Hid (Bx v1 w.heap.size (.slice a1 0 c1) (.slice a2 0 c2) 3 k) := by rw [← hv1]; exact X1.out.put _ _
  have B2 : Hid (Below w.heap.size w v1) := by rw [← hv1]; exact (B1.out.setCell (by simp) _).setCell (by simp) _
  have U2 : Hid (Up (w.heap.size + 3) w1 v1) := by rw [← hv1]; exact ((Up.refl _ _).set (by show w.heap.size < _; omega) _).set (by show w.heap.size < _; omega) _
  rw [hv1]
  clear hv1 X1 B1
  have KS : Hid (∀ w', Kp2 w.heap.size v1 w' → (w'.cell? ⟨w.heap.size, 0, none⟩ = some (.slice a1 0 c1) ∧ w'.cell? ⟨w.heap.size, 1, none⟩ = some (.slice a2 0 c2)) ∧ w'.cell? ⟨w.heap.size + 1, 1, none⟩ = some (.int .i64 k)) := fun w' hk => X2.out.kp hk
  have hkc : Hid (Kp2 w.heap.size v1 v1.drew) := Kp2.drew _ _
  go_wp2_with fail
  go_region_held3 (fun w' => (w'.cell? ⟨w.heap.size, 0, none⟩ = some (.slice a1 0 c1) ∧ w'.cell? ⟨w.heap.size, 1, none⟩ = some (.slice a2 0 c2)) ∧ w'.cell? ⟨w.heap.size + 1, 1, none⟩ = some (.int .i64 k))
    (first
      | exact KS.out _ hkc.out
      | exact KS.out _ (hkc.out.set _ _)
      | assumption)
    (first
      | (go_at_call 23; (with_reducible refine (drop_more g b n k x R M _ (HP.out.keep B2.out.drew) hk EX.out hx0 (by omega)).mono ?_); (rintro e w2 ⟨rfl, hp, hbt⟩; rw [EY.out] at hp; have P4 : Hid (PoolAt w2 g b n (R.set k y) M) := hp; have X4 : Hid (Bx w2 w.heap.size (.slice a1 0 c1) (.slice a2 0 c2) 3 k) := X2.out.drew.but hbt lg lb; have B4 : Hid (But2 g b w w2) := (But2.of_below (B2.out.drew) (by omega)).trans hbt; have U4 : Hid (Up (w.heap.size + 3) w1 w2) := (U2.out.below ((Below.refl _ _).drew)).but hbt (by omega) (by omega); have hkc : Hid (Kp2 w.heap.size v1 w2) := hkc.out.but hbt lg lb X2.out.drew.size; obtain ⟨_, _, ⟨r0, r1⟩⟩ := X4.out.cells; obtain ⟨_, ⟨e0, e1⟩⟩ := X4.out.open; clear hp hbt)))
  go_wp2
  refine bodyPost_ret (v := .tuple #[.agg #[.slice a1 0 c1, .slice a2 0 c2], .bool false]) (by simp [results, Try.results10, go_sem, r0, r1]) rfl ⟨_, rfl, X4.out.answer P4.out lg lb _ _, ?_⟩
  exact (B4.out.set (p := ⟨w.heap.size + 2, 0, none⟩) (by show w.heap.size ≤ w.heap.size + 2; omega) lg _).set (p := ⟨w.heap.size + 2, 1, none⟩) (by show w.heap.size ≤ w.heap.size + 2; omega) lg _

set_option maxRecDepth 100000 in
set_option maxHeartbeats 3200000 in
theorem stepB_drop_last (g b n k : Nat) (s1 s2 : Value) (R M : List Int) (w : World) (hp : PoolAt w g b n R M) (hr : RefAt w g b 0 [] [] s1 s2) (hk : k < n) (ex : Ls.nth R k = 1) :
    Calls Try.prog 10 #[.pointer (some ⟨g, 0, none⟩), .agg #[s1, s2], .agg #[.int .i64 3, .int .i64 k]] w fun e w' => ∃ v, e = .returned v ∧ PoolAt w' g b n (R.set k 0) M ∧ But2 g b w w' := by
  obtain ⟨a1, c1, a2, c2, rfl, rfl, hL1, hL2, hC1, hC2, hO1, hO2⟩ := hr
  obtain ⟨nbg, lR, lM, hn, hnn⟩ := hp.nums
  obtain ⟨lg, lb⟩ := hp.lt
  have HP : Hid (PoolAt w g b n R M) := hp
  have L1 : Hid (Lst .i64 w a1 []) := hL1
  have L2 : Hid (Lst .i64 w a2 []) := hL2
  have C12 : Hid ((a1 = none → c1 = 0) ∧ (a2 = none → c2 = 0)) := ⟨hC1, hC2⟩
  have O12 : Hid (Off g b a1 ∧ Off g b a2) := ⟨hO1, hO2⟩
  have LR : Hid (R.length = n ∧ M.length = n) := ⟨lR, lM⟩
  have EX : Hid (Ls.nth R k = 1) := ex
  have HR : Hid (0 < Ls.nth R k) := by show 0 < Ls.nth R k; rw [ex]; omega
  clear hp hL1 hL2 hC1 hC2 hO1 hO2 lR lM hnn ex
  go_enter Try.func10, Try.ntmps10
  go_wp2_with fail
  obtain ⟨u, hu⟩ : ∃ u, ((w.alloc (.cells #[.slice a1 0 c1, .slice a2 0 c2] 30)).alloc (.cells #[.int .i64 3, .int .i64 k] 33)).alloc (.cells #[.slice none 0 0, .slice none 0 0] 30) = u := ⟨_, rfl⟩
  have UB : Hid (Below w.heap.size w u) := by rw [← hu]; exact three_below _ _ _ _
  have US : u.heap.size = w.heap.size + 3 := by rw [← hu]; exact three_size _ _ _ _
  have UX : Hid (Bx u w.heap.size (.slice a1 0 c1) (.slice a2 0 c2) 3 k) := by rw [← hu]; exact bx_new _ _ _ _ _
  rw [hu]
  clear hu
  refine (refChange_none a1 a2 0 c1 0 c2 k (-1) [] u (L1.out.keep UB.out) rfl (fun q => by omega)).mono ?_
  rintro e w1 ⟨rfl, hB⟩
  have X1 : Hid (Bx w1 w.heap.size (.slice a1 0 c1) (.slice a2 0 c2) 3 k) := UX.out.below hB
  have B1 : Hid (Below w.heap.size w w1) := below_then UB.out hB
  clear hB
  obtain ⟨⟨x0, x1⟩, ⟨o0, o1⟩, ⟨r0, r1⟩⟩ := X1.out.cells
  obtain ⟨⟨f0, f1⟩, ⟨e0, e1⟩⟩ := X1.out.open
  go_wp2_with fail
  clear x0 x1 o0 o1 r0 r1 f0 f1 e0 e1
  obtain ⟨v1, hv1⟩ : ∃ v, ((w1.setCell ⟨w.heap.size, 0, none⟩ (.slice a1 0 c1)).setCell ⟨w.heap.size, 1, none⟩ (.slice a2 0 c2)) = v := ⟨_, rfl⟩
  have X2 : Hid (Bx v1 w.heap.size (.slice a1 0 c1) (.slice a2 0 c2) 3 k) := by rw [← hv1]; exact X1.out.put _ _
  have B2 : Hid (Below w.heap.size w v1) := by rw [← hv1]; exact (B1.out.setCell (by simp) _).setCell (by simp) _
  have U2 : Hid (Up (w.heap.size + 3) w1 v1) := by rw [← hv1]; exact ((Up.refl _ _).set (by show w.heap.size < _; omega) _).set (by show w.heap.size < _; omega) _
  rw [hv1]
  clear hv1 X1 B1
  have KS : Hid (∀ w', Kp2 w.heap.size v1 w' → (w'.cell? ⟨w.heap.size, 0, none⟩ = some (.slice a1 0 c1) ∧ w'.cell? ⟨w.heap.size, 1, none⟩ = some (.slice a2 0 c2)) ∧ w'.cell? ⟨w.heap.size + 1, 1, none⟩ = some (.int .i64 k)) := fun w' hk => X2.out.kp hk
  have hkc : Hid (Kp2 w.heap.size v1 v1.drew) := Kp2.drew _ _
  go_wp2_with fail
  go_region_held3 (fun w' => (w'.cell? ⟨w.heap.size, 0, none⟩ = some (.slice a1 0 c1) ∧ w'.cell? ⟨w.heap.size, 1, none⟩ = some (.slice a2 0 c2)) ∧ w'.cell? ⟨w.heap.size + 1, 1, none⟩ = some (.int .i64 k))
    (first
      | exact KS.out _ hkc.out
      | exact KS.out _ (hkc.out.set _ _)
      | assumption)
    (first
      | (go_at_call 23; (with_reducible refine (drop_last g b n k R M _ (HP.out.keep B2.out.drew) hk EX.out).mono ?_); (rintro e w2 ⟨rfl, hp, hbt⟩; have P4 : Hid (PoolAt w2 g b n (R.set k 0) M) := hp; have X4 : Hid (Bx w2 w.heap.size (.slice a1 0 c1) (.slice a2 0 c2) 3 k) := X2.out.drew.but hbt lg lb; have B4 : Hid (But2 g b w w2) := (But2.of_below (B2.out.drew) (by omega)).trans hbt; have U4 : Hid (Up (w.heap.size + 3) w1 w2) := (U2.out.below ((Below.refl _ _).drew)).but hbt (by omega) (by omega); have hkc : Hid (Kp2 w.heap.size v1 w2) := hkc.out.but hbt lg lb X2.out.drew.size; obtain ⟨_, _, ⟨r0, r1⟩⟩ := X4.out.cells; obtain ⟨_, ⟨e0, e1⟩⟩ := X4.out.open; clear hp hbt)))
  go_wp2
  refine bodyPost_ret (v := .tuple #[.agg #[.slice a1 0 c1, .slice a2 0 c2], .bool false]) (by simp [results, Try.results10, go_sem, r0, r1]) rfl ⟨_, rfl, X4.out.answer P4.out lg lb _ _, ?_⟩
  exact (B4.out.set (p := ⟨w.heap.size + 2, 0, none⟩) (by show w.heap.size ≤ w.heap.size + 2; omega) lg _).set (p := ⟨w.heap.size + 2, 1, none⟩) (by show w.heap.size ≤ w.heap.size + 2; omega) lg _

set_option maxRecDepth 100000 in
set_option maxHeartbeats 3200000 in
theorem stepB_drop_none (g b n : Nat) (id : Int) (s1 s2 : Value) (R M : List Int) (w : World) (hp : PoolAt w g b n R M) (hr : RefAt w g b 0 [] [] s1 s2) (hno : ¬ (0 ≤ id ∧ id < n ∧ 0 < Ls.nth R id.toNat)) :
    Calls Try.prog 10 #[.pointer (some ⟨g, 0, none⟩), .agg #[s1, s2], .agg #[.int .i64 3, .int .i64 id]] w fun e w' => ∃ v, e = .returned v ∧ PoolAt w' g b n R M ∧ But2 g b w w' := by
  obtain ⟨a1, c1, a2, c2, rfl, rfl, hL1, hL2, hC1, hC2, hO1, hO2⟩ := hr
  obtain ⟨nbg, lR, lM, hn, hnn⟩ := hp.nums
  obtain ⟨lg, lb⟩ := hp.lt
  have HP : Hid (PoolAt w g b n R M) := hp
  have L1 : Hid (Lst .i64 w a1 []) := hL1
  have L2 : Hid (Lst .i64 w a2 []) := hL2
  have C12 : Hid ((a1 = none → c1 = 0) ∧ (a2 = none → c2 = 0)) := ⟨hC1, hC2⟩
  have O12 : Hid (Off g b a1 ∧ Off g b a2) := ⟨hO1, hO2⟩
  have LR : Hid (R.length = n ∧ M.length = n) := ⟨lR, lM⟩
  have HN : Hid (¬ (0 ≤ id ∧ id < n ∧ 0 < Ls.nth R id.toNat)) := hno
  clear hp hL1 hL2 hC1 hC2 hO1 hO2 lR lM hnn hno
  go_enter Try.func10, Try.ntmps10
  go_wp2_with fail
  obtain ⟨u, hu⟩ : ∃ u, ((w.alloc (.cells #[.slice a1 0 c1, .slice a2 0 c2] 30)).alloc (.cells #[.int .i64 3, .int .i64 id] 33)).alloc (.cells #[.slice none 0 0, .slice none 0 0] 30) = u := ⟨_, rfl⟩
  have UB : Hid (Below w.heap.size w u) := by rw [← hu]; exact three_below _ _ _ _
  have US : u.heap.size = w.heap.size + 3 := by rw [← hu]; exact three_size _ _ _ _
  have UX : Hid (Bx u w.heap.size (.slice a1 0 c1) (.slice a2 0 c2) 3 id) := by rw [← hu]; exact bx_new _ _ _ _ _
  rw [hu]
  clear hu
  refine (refChange_none a1 a2 0 c1 0 c2 id (-1) [] u (L1.out.keep UB.out) rfl (fun q => by omega)).mono ?_
  rintro e w1 ⟨rfl, hB⟩
  have X1 : Hid (Bx w1 w.heap.size (.slice a1 0 c1) (.slice a2 0 c2) 3 id) := UX.out.below hB
  have B1 : Hid (Below w.heap.size w w1) := below_then UB.out hB
  clear hB
  obtain ⟨⟨x0, x1⟩, ⟨o0, o1⟩, ⟨r0, r1⟩⟩ := X1.out.cells
  obtain ⟨⟨f0, f1⟩, ⟨e0, e1⟩⟩ := X1.out.open
  go_wp2_with fail
  clear x0 x1 o0 o1 r0 r1 f0 f1 e0 e1
  obtain ⟨v1, hv1⟩ : ∃ v, ((w1.setCell ⟨w.heap.size, 0, none⟩ (.slice a1 0 c1)).setCell ⟨w.heap.size, 1, none⟩ (.slice a2 0 c2)) = v := ⟨_, rfl⟩
  have X2 : Hid (Bx v1 w.heap.size (.slice a1 0 c1) (.slice a2 0 c2) 3 id) := by rw [← hv1]; exact X1.out.put _ _
  have B2 : Hid (Below w.heap.size w v1) := by rw [← hv1]; exact (B1.out.setCell (by simp) _).setCell (by simp) _
  have U2 : Hid (Up (w.heap.size + 3) w1 v1) := by rw [← hv1]; exact ((Up.refl _ _).set (by show w.heap.size < _; omega) _).set (by show w.heap.size < _; omega) _
  rw [hv1]
  clear hv1 X1 B1
  have KS : Hid (∀ w', Kp2 w.heap.size v1 w' → (w'.cell? ⟨w.heap.size, 0, none⟩ = some (.slice a1 0 c1) ∧ w'.cell? ⟨w.heap.size, 1, none⟩ = some (.slice a2 0 c2)) ∧ w'.cell? ⟨w.heap.size + 1, 1, none⟩ = some (.int .i64 id)) := fun w' hk => X2.out.kp hk
  have hkc : Hid (Kp2 w.heap.size v1 v1.drew) := Kp2.drew _ _
  go_wp2_with fail
  go_region_held3 (fun w' => (w'.cell? ⟨w.heap.size, 0, none⟩ = some (.slice a1 0 c1) ∧ w'.cell? ⟨w.heap.size, 1, none⟩ = some (.slice a2 0 c2)) ∧ w'.cell? ⟨w.heap.size + 1, 1, none⟩ = some (.int .i64 id))
    (first
      | exact KS.out _ hkc.out
      | exact KS.out _ (hkc.out.set _ _)
      | assumption)
    (first
      | (go_at_call 23; (with_reducible refine (drop_none g b n id R M _ (HP.out.keep B2.out.drew) HN.out).mono ?_); (rintro e w2 ⟨rfl, hww⟩; have P4 : Hid (PoolAt w2 g b n R M) := (by rw [hww]; exact HP.out.keep B2.out.drew); have X4 : Hid (Bx w2 w.heap.size (.slice a1 0 c1) (.slice a2 0 c2) 3 id) := (by rw [hww]; exact X2.out.drew); have B4 : Hid (But2 g b w w2) := (by rw [hww]; exact But2.of_below (B2.out.drew) (by omega)); have U4 : Hid (Up (w.heap.size + 3) w1 w2) := (by rw [hww]; exact U2.out.below ((Below.refl _ _).drew)); have hkc : Hid (Kp2 w.heap.size v1 w2) := (by rw [hww]; exact Kp2.drew _ _); clear hww; obtain ⟨_, _, ⟨r0, r1⟩⟩ := X4.out.cells; obtain ⟨_, ⟨e0, e1⟩⟩ := X4.out.open)))
  go_wp2
  refine bodyPost_ret (v := .tuple #[.agg #[.slice a1 0 c1, .slice a2 0 c2], .bool true]) (by simp [results, Try.results10, go_sem, r0, r1]) rfl ⟨_, rfl, X4.out.answer P4.out lg lb _ _, ?_⟩
  exact (B4.out.set (p := ⟨w.heap.size + 2, 0, none⟩) (by show w.heap.size ≤ w.heap.size + 2; omega) lg _).set (p := ⟨w.heap.size + 2, 1, none⟩) (by show w.heap.size ≤ w.heap.size + 2; omega) lg _

set_option maxRecDepth 100000 in
set_option maxHeartbeats 3200000 in
theorem stepB_get_some (g b n k : Nat) (kd : Int) (d1 : (kd == 1) = false) (d2 : (kd == 2) = false) (d3 : (kd == 3) = false) (x : Int) (s1 s2 : Value) (R M : List Int) (w : World) (hp : PoolAt w g b n R M) (hr : RefAt w g b 0 [] [] s1 s2) (hk : k < n) (ex : Ls.nth R k = x) (hx0 : 0 < x) :
    Calls Try.prog 10 #[.pointer (some ⟨g, 0, none⟩), .agg #[s1, s2], .agg #[.int .i64 kd, .int .i64 k]] w fun e w' => ∃ v, e = .returned v ∧ PoolAt w' g b n R M ∧ But2 g b w w' := by
  obtain ⟨a1, c1, a2, c2, rfl, rfl, hL1, hL2, hC1, hC2, hO1, hO2⟩ := hr
  obtain ⟨nbg, lR, lM, hn, hnn⟩ := hp.nums
  obtain ⟨lg, lb⟩ := hp.lt
  have HP : Hid (PoolAt w g b n R M) := hp
  have L1 : Hid (Lst .i64 w a1 []) := hL1
  have L2 : Hid (Lst .i64 w a2 []) := hL2
  have C12 : Hid ((a1 = none → c1 = 0) ∧ (a2 = none → c2 = 0)) := ⟨hC1, hC2⟩
  have O12 : Hid (Off g b a1 ∧ Off g b a2) := ⟨hO1, hO2⟩
  have LR : Hid (R.length = n ∧ M.length = n) := ⟨lR, lM⟩
  have EX : Hid (Ls.nth R k = x) := ex
  have HR : Hid (0 < Ls.nth R k) := by show 0 < Ls.nth R k; rw [ex]; omega
  clear hp hL1 hL2 hC1 hC2 hO1 hO2 lR lM hnn ex
  go_enter Try.func10, Try.ntmps10
  go_wp2_with fail
  obtain ⟨u, hu⟩ : ∃ u, ((w.alloc (.cells #[.slice a1 0 c1, .slice a2 0 c2] 30)).alloc (.cells #[.int .i64 kd, .int .i64 k] 33)).alloc (.cells #[.slice none 0 0, .slice none 0 0] 30) = u := ⟨_, rfl⟩
  have UB : Hid (Below w.heap.size w u) := by rw [← hu]; exact three_below _ _ _ _
  have US : u.heap.size = w.heap.size + 3 := by rw [← hu]; exact three_size _ _ _ _
  have UX : Hid (Bx u w.heap.size (.slice a1 0 c1) (.slice a2 0 c2) kd k) := by rw [← hu]; exact bx_new _ _ _ _ _
  rw [hu]
  clear hu
  refine (get_some g b n k R M u (HP.out.keep UB.out) hk HR.out).mono ?_
  rintro e w1 ⟨q, rfl, hq, hww⟩
  cases hww.symm
  clear hww
  have Q3 : Hid (PgM u q (Ls.nth M k)) := hq
  clear hq
  obtain ⟨⟨x0, x1⟩, ⟨o0, o1⟩, ⟨r0, r1⟩⟩ := UX.out.cells
  obtain ⟨⟨f0, f1⟩, ⟨e0, e1⟩⟩ := UX.out.open
  go_wp2_with fail
  clear x0 x1 o0 o1 r0 r1 f0 f1 e0 e1
  refine (refIs_no a1 a2 0 c1 0 c2 k [] u (L1.out.keep UB.out) rfl (fun q => by omega)).mono ?_
  rintro e v1 ⟨rfl, hB⟩
  have X2 : Hid (Bx v1 w.heap.size (.slice a1 0 c1) (.slice a2 0 c2) kd k) := UX.out.below hB
  have B2 : Hid (Below w.heap.size w v1) := below_then UB.out hB
  have Q4 : Hid (PgM v1 q (Ls.nth M k)) := Q3.out.keep hB
  clear hB
  have KS : Hid (∀ w', Kp2 w.heap.size v1 w' → ((w'.cell? ⟨w.heap.size, 0, none⟩ = some (.slice a1 0 c1) ∧ w'.cell? ⟨w.heap.size, 1, none⟩ = some (.slice a2 0 c2)) ∧ w'.cell? ⟨w.heap.size + 1, 1, none⟩ = some (.int .i64 k))) := fun w' hk => X2.out.kp hk
  obtain ⟨⟨x0, x1⟩, ⟨o0, o1⟩, ⟨r0, r1⟩⟩ := X2.out.cells
  obtain ⟨⟨f0, f1⟩, ⟨e0, e1⟩⟩ := X2.out.open
  clear x0 x1 o0 o1 f0 f1
  go_wp2_with fail
  refine wp_region_held_drew (S := fun w' => (w'.cell? ⟨w.heap.size, 0, none⟩ = some (.slice a1 0 c1) ∧ w'.cell? ⟨w.heap.size, 1, none⟩ = some (.slice a2 0 c2)) ∧ w'.cell? ⟨w.heap.size + 1, 1, none⟩ = some (.int .i64 k)) (by kernel_rfl) (KS.out _ (Kp2.drew _ _)) (fun hHeld => ?_)
  refine take_yes 0 88 (v := ?_) rfl rfl (by kernel_rfl) (by kernel_rfl) (by kernel_rfl) (fun _ _ _ h => h) hHeld (by rfl) (fun w hSw => ?_) ?_
  rotate_left
  · (try dsimp only at hSw); go_simp; try rfl
  try simp only [Act.put, List.setIfInBounds_toArray, List.set_cons_zero, List.set_cons_succ]
  refine take_yes 1 89 (v := ?_) rfl rfl (by kernel_rfl) (by kernel_rfl) (by kernel_rfl) (fun _ _ _ h => h) hHeld (by rfl) (fun w hSw => ?_) ?_
  rotate_left
  · (try dsimp only at hSw); go_simp; try rfl
  try simp only [Act.put, List.setIfInBounds_toArray, List.set_cons_zero, List.set_cons_succ]
  refine take_yes 2 90 (v := ?_) rfl rfl (by kernel_rfl) (by kernel_rfl) (by kernel_rfl) (fun _ _ _ h => h) hHeld (by rfl) (fun w hSw => ?_) ?_
  rotate_left
  · (try dsimp only at hSw); go_simp; try rfl
  try simp only [Act.put, List.setIfInBounds_toArray, List.set_cons_zero, List.set_cons_succ]
  refine take_yes 3 91 (v := ?_) rfl rfl (by kernel_rfl) (by kernel_rfl) (by kernel_rfl) (fun _ _ _ h => h) hHeld (by rfl) (fun w hSw => ?_) ?_
  rotate_left
  · (try dsimp only at hSw); go_simp; try rfl
  try simp only [Act.put, List.setIfInBounds_toArray, List.set_cons_zero, List.set_cons_succ]
  refine take_no 4 92 rfl rfl (by kernel_rfl) (by kernel_rfl) (by kernel_rfl) (fun _ _ _ h => h) hHeld (by rfl) ?_
  try simp only [Act.put, List.setIfInBounds_toArray, List.set_cons_zero, List.set_cons_succ]
  refine take_no 5 93 rfl rfl (by kernel_rfl) (by kernel_rfl) (by kernel_rfl) (fun _ _ _ h => h) hHeld (by rfl) ?_
  try simp only [Act.put, List.setIfInBounds_toArray, List.set_cons_zero, List.set_cons_succ]
  refine take_yes 6 94 (v := ?_) rfl rfl (by kernel_rfl) (by kernel_rfl) (by kernel_rfl) (fun _ _ _ h => h) hHeld (by rfl) (fun w hSw => ?_) ?_
  rotate_left
  · (try dsimp only at hSw); go_simp; try rfl
  try simp only [Act.put, List.setIfInBounds_toArray, List.set_cons_zero, List.set_cons_succ]
  refine take_yes 7 95 (v := ?_) rfl rfl (by kernel_rfl) (by kernel_rfl) (by kernel_rfl) (fun _ _ _ h => h) hHeld (by rfl) (fun w hSw => ?_) ?_
  rotate_left
  · (try dsimp only at hSw); go_simp; try rfl
  try simp only [Act.put, List.setIfInBounds_toArray, List.set_cons_zero, List.set_cons_succ]
  refine take_no 8 96 rfl rfl (by kernel_rfl) (by kernel_rfl) (by kernel_rfl) (fun _ _ _ h => h) hHeld (by rfl) ?_
  try simp only [Act.put, List.setIfInBounds_toArray, List.set_cons_zero, List.set_cons_succ]
  refine take_no 9 97 rfl rfl (by kernel_rfl) (by kernel_rfl) (by kernel_rfl) (fun _ _ _ h => h) hHeld (by rfl) ?_
  try simp only [Act.put, List.setIfInBounds_toArray, List.set_cons_zero, List.set_cons_succ]
  refine take_no 10 98 rfl rfl (by kernel_rfl) (by kernel_rfl) (by kernel_rfl) (fun _ _ _ h => h) hHeld (by rfl) ?_
  try simp only [Act.put, List.setIfInBounds_toArray, List.set_cons_zero, List.set_cons_succ]
  refine take_no 11 99 rfl rfl (by kernel_rfl) (by kernel_rfl) (by kernel_rfl) (fun _ _ _ h => h) hHeld (by rfl) ?_
  try simp only [Act.put, List.setIfInBounds_toArray, List.set_cons_zero, List.set_cons_succ]
  refine take_no 12 100 rfl rfl (by kernel_rfl) (by kernel_rfl) (by kernel_rfl) (fun _ _ _ h => h) hHeld (by rfl) ?_
  try simp only [Act.put, List.setIfInBounds_toArray, List.set_cons_zero, List.set_cons_succ]
  refine take_yes 13 101 (v := ?_) rfl rfl (by kernel_rfl) (by kernel_rfl) (by kernel_rfl) (fun _ _ _ h => h) hHeld (by rfl) (fun w hSw => ?_) ?_
  rotate_left
  · (try dsimp only at hSw); go_simp; try rfl
  try simp only [Act.put, List.setIfInBounds_toArray, List.set_cons_zero, List.set_cons_succ]
  refine wpAnyH_ready (rs := [14]) (by kernel_rfl) (by simp) ?_
  refine AllReadyH.cons rfl (fun K hK => ?_) AllReadyH.nil
  go_simp
  refine hK.out _ _ (KS.out _ ((Kp2.drew _ _).set _ _)) (fun hHeld => ?_)
  clear hK K
  try simp only [Act.put, List.setIfInBounds_toArray, List.set_cons_zero, List.set_cons_succ]
  refine take_yes 15 7 (v := ?_) rfl rfl (by kernel_rfl) (by kernel_rfl) (by kernel_rfl) (fun _ _ _ h => h) hHeld (by rfl) (fun w hSw => ?_) ?_
  rotate_left
  · (try dsimp only at hSw); go_simp; try rfl
  try simp only [Act.put, List.setIfInBounds_toArray, List.set_cons_zero, List.set_cons_succ]
  refine wpAnyH_done (by kernel_rfl) ?_ _
  have X4 : Hid (Bx v1.drew w.heap.size (.slice a1 0 c1) (.slice a2 0 c2) kd k) := X2.out.drew
  have P4 : Hid (PoolAt v1.drew g b n R M) := HP.out.keep B2.out.drew
  have B4 : Hid (But2 g b w v1.drew) := But2.of_below (B2.out.drew) (by omega)
  go_wp2
  refine bodyPost_ret (v := .tuple #[.agg #[.slice a1 0 c1, .slice a2 0 c2], .bool false]) (by simp [results, Try.results10, go_sem, r0, r1]) rfl ⟨_, rfl, X4.out.answer P4.out lg lb _ _, ?_⟩
  exact (B4.out.set (p := ⟨w.heap.size + 2, 0, none⟩) (by show w.heap.size ≤ w.heap.size + 2; omega) lg _).set (p := ⟨w.heap.size + 2, 1, none⟩) (by show w.heap.size ≤ w.heap.size + 2; omega) lg _

set_option maxRecDepth 100000 in
set_option maxHeartbeats 3200000 in
theorem stepB_get_none (g b n : Nat) (id : Int) (kd : Int) (d1 : (kd == 1) = false) (d2 : (kd == 2) = false) (d3 : (kd == 3) = false) (s1 s2 : Value) (R M : List Int) (w : World) (hp : PoolAt w g b n R M) (hr : RefAt w g b 0 [] [] s1 s2) (hno : ¬ (0 ≤ id ∧ id < n ∧ 0 < Ls.nth R id.toNat)) :
    Calls Try.prog 10 #[.pointer (some ⟨g, 0, none⟩), .agg #[s1, s2], .agg #[.int .i64 kd, .int .i64 id]] w fun e w' => ∃ v, e = .returned v ∧ PoolAt w' g b n R M ∧ But2 g b w w' := by
  obtain ⟨a1, c1, a2, c2, rfl, rfl, hL1, hL2, hC1, hC2, hO1, hO2⟩ := hr
  obtain ⟨nbg, lR, lM, hn, hnn⟩ := hp.nums
  obtain ⟨lg, lb⟩ := hp.lt
  have HP : Hid (PoolAt w g b n R M) := hp
  have L1 : Hid (Lst .i64 w a1 []) := hL1
  have L2 : Hid (Lst .i64 w a2 []) := hL2
  have C12 : Hid ((a1 = none → c1 = 0) ∧ (a2 = none → c2 = 0)) := ⟨hC1, hC2⟩
  have O12 : Hid (Off g b a1 ∧ Off g b a2) := ⟨hO1, hO2⟩
  have LR : Hid (R.length = n ∧ M.length = n) := ⟨lR, lM⟩
  have HN : Hid (¬ (0 ≤ id ∧ id < n ∧ 0 < Ls.nth R id.toNat)) := hno
  clear hp hL1 hL2 hC1 hC2 hO1 hO2 lR lM hnn hno
  go_enter Try.func10, Try.ntmps10
  go_wp2_with fail
  obtain ⟨u, hu⟩ : ∃ u, ((w.alloc (.cells #[.slice a1 0 c1, .slice a2 0 c2] 30)).alloc (.cells #[.int .i64 kd, .int .i64 id] 33)).alloc (.cells #[.slice none 0 0, .slice none 0 0] 30) = u := ⟨_, rfl⟩
  have UB : Hid (Below w.heap.size w u) := by rw [← hu]; exact three_below _ _ _ _
  have US : u.heap.size = w.heap.size + 3 := by rw [← hu]; exact three_size _ _ _ _
  have UX : Hid (Bx u w.heap.size (.slice a1 0 c1) (.slice a2 0 c2) kd id) := by rw [← hu]; exact bx_new _ _ _ _ _
  rw [hu]
  clear hu
  refine (get_none g b n id R M u (HP.out.keep UB.out) HN.out).mono ?_
  rintro e w1 ⟨rfl, hww⟩
  cases hww.symm
  clear hww
  obtain ⟨⟨x0, x1⟩, ⟨o0, o1⟩, ⟨r0, r1⟩⟩ := UX.out.cells
  obtain ⟨⟨f0, f1⟩, ⟨e0, e1⟩⟩ := UX.out.open
  go_wp2_with fail
  clear x0 x1 o0 o1 r0 r1 f0 f1 e0 e1
  refine (refIs_no a1 a2 0 c1 0 c2 id [] u (L1.out.keep UB.out) rfl (fun q => by omega)).mono ?_
  rintro e v1 ⟨rfl, hB⟩
  have X2 : Hid (Bx v1 w.heap.size (.slice a1 0 c1) (.slice a2 0 c2) kd id) := UX.out.below hB
  have B2 : Hid (Below w.heap.size w v1) := below_then UB.out hB
  clear hB
  have KS : Hid (∀ w', Below (w.heap.size + 2) v1 w' → ((w'.cell? ⟨w.heap.size, 0, none⟩ = some (.slice a1 0 c1) ∧ w'.cell? ⟨w.heap.size, 1, none⟩ = some (.slice a2 0 c2)) ∧ w'.cell? ⟨w.heap.size + 1, 1, none⟩ = some (.int .i64 id))) := fun w' hb => X2.out.kp ⟨hb.block _ (by omega), hb.block _ (by omega)⟩
  have hz2 := X2.out.size
  have hbc : Hid (Below (w.heap.size + 2) v1 v1.drew) := ((Below.refl v1.heap.size v1).mono (by omega)).drew
  go_wp2_with fail
  go_region_held3 (fun w' => (w'.cell? ⟨w.heap.size, 0, none⟩ = some (.slice a1 0 c1) ∧ w'.cell? ⟨w.heap.size, 1, none⟩ = some (.slice a2 0 c2)) ∧ w'.cell? ⟨w.heap.size + 1, 1, none⟩ = some (.int .i64 id))
    (first
      | exact KS.out _ hbc.out
      | exact KS.out _ ((hbc.out.setCell (by simp) _).setCell (by simp) _)
      | assumption)
    (first
      | (go_at_call 22; (with_reducible refine (refs_none g b n id R M _ (HP.out.keep B2.out.drew) HN.out).mono ?_); (rintro e w2 ⟨rfl, hww⟩; have P4 : Hid (PoolAt w2 g b n R M) := (by rw [hww]; exact HP.out.keep B2.out.drew); have X4 : Hid (Bx w2 w.heap.size (.slice a1 0 c1) (.slice a2 0 c2) kd id) := (by rw [hww]; exact X2.out.drew); have B4 : Hid (But2 g b w w2) := (by rw [hww]; exact But2.of_below (B2.out.drew) (by omega)); have hbc : Hid (Below (w.heap.size + 2) v1 w2) := (by rw [hww]; exact hbc.out); clear hww; obtain ⟨_, _, ⟨r0, r1⟩⟩ := X4.out.cells; obtain ⟨_, ⟨e0, e1⟩⟩ := X4.out.open)))
  go_wp2
  refine bodyPost_ret (v := .tuple #[.agg #[.slice a1 0 c1, .slice a2 0 c2], .bool true]) (by simp [results, Try.results10, go_sem, r0, r1]) rfl ⟨_, rfl, X4.out.answer P4.out lg lb _ _, ?_⟩
  exact (B4.out.set (p := ⟨w.heap.size + 2, 0, none⟩) (by show w.heap.size ≤ w.heap.size + 2; omega) lg _).set (p := ⟨w.heap.size + 2, 1, none⟩) (by show w.heap.size ≤ w.heap.size + 2; omega) lg _
end Go.Proofs.Ytgpjmbhcfjafmaa
/- One call of layer 10's law, whatever it is. -/
namespace Go.Proofs.Ytgpjmbhcfjafmaa
set_option linter.unusedVariables false
open Go.RowKit

theorem Po.set_le {R : List Int} {k : Nat} (hk : k < R.length) {x y : Int} (ex : Ls.nth R k = x) (hy : y ≤ x + 1) (i : Nat) : Ls.nth (R.set k y) i ≤ Ls.nth R i + 1 := by
  rw [Po.nth_set hk]
  split
  · rename_i e; rw [e, ex]; exact hy
  · omega
theorem Po.set_off {R : List Int} {k : Nat} (hk : k < R.length) (y : Int) {i : Nat} (h : ¬ i = k) : Ls.nth (R.set k y) i = Ls.nth R i := by rw [Po.nth_set hk, if_neg h]

theorem stepA_any (g b n : Nat) (kd N : Int) (s1 s2 : Value) (R M : List Int) (w : World) (hp : PoolAt w g b n R M) (hr : RefAt w g b n R M s1 s2) (hb : ∀ i, Ls.nth R i < 90000) :
    Calls Try.prog 10 #[.pointer (some ⟨g, 0, none⟩), .agg #[s1, s2], .agg #[.int .i64 kd, .int .i64 N]] w fun e w' => ∃ t1 t2 R' M', e = .returned (.tuple #[.agg #[t1, t2], .bool true]) ∧ PoolAt w' g b n R' M' ∧ RefAt w' g b n R' M' t1 t2 ∧ (∀ i, Ls.nth R' i ≤ Ls.nth R i + 1) ∧ But2 g b w w' := by
  obtain ⟨_, lR, lM, hn, hnn⟩ := hp.nums
  by_cases k1 : kd = 1
  · subst k1
    rcases Po.free_cases R with h | ⟨k, hk, h0, hl⟩
    · refine (stepA_put_full g b n N s1 s2 R M w hp hr h).mono ?_
      rintro e w' ⟨t1, t2, rfl, h1, h2, h3⟩
      exact ⟨t1, t2, _, _, rfl, h1, h2, fun i => by omega, h3⟩
    · refine (stepA_put_ok g b n k N s1 s2 R M w hp hr (by omega) h0 hl).mono ?_
      rintro e w' ⟨t1, t2, rfl, h1, h2, h3⟩
      exact ⟨t1, t2, _, _, rfl, h1, h2, Po.set_le hk h0 (by omega), h3⟩
  by_cases hh : 0 ≤ N ∧ N < n ∧ 0 < Ls.nth R N.toNat
  · obtain ⟨k, rfl⟩ : ∃ k : Nat, N = k := ⟨N.toNat, by omega⟩
    have hk : k < n := by omega
    have hr0 : 0 < Ls.nth R k := by simpa using hh.2.2
    have hkR : k < R.length := by omega
    have hbk := hb k
    by_cases k2 : kd = 2
    · subst k2
      refine (stepA_hold_ok g b n k _ s1 s2 R M w hp hr hk rfl hr0 (by omega)).mono ?_
      rintro e w' ⟨t1, t2, rfl, h1, h2, h3⟩
      exact ⟨t1, t2, _, _, rfl, h1, h2, Po.set_le hkR rfl (by omega), h3⟩
    by_cases k3 : kd = 3
    · subst k3
      by_cases e1 : Ls.nth R k = 1
      · refine (stepA_drop_last g b n k s1 s2 R M w hp hr hk e1).mono ?_
        rintro e w' ⟨t1, t2, rfl, h1, h2, h3⟩
        exact ⟨t1, t2, _, _, rfl, h1, h2, Po.set_le hkR e1 (by omega), h3⟩
      · refine (stepA_drop_more g b n k _ s1 s2 R M w hp hr hk rfl (by omega) (by omega)).mono ?_
        rintro e w' ⟨t1, t2, rfl, h1, h2, h3⟩
        exact ⟨t1, t2, _, _, rfl, h1, h2, Po.set_le hkR rfl (by omega), h3⟩
    · refine (stepA_get_some g b n k kd (beq_eq_false_iff_ne.2 k1) (beq_eq_false_iff_ne.2 k2) (beq_eq_false_iff_ne.2 k3) _ s1 s2 R M w hp hr hk rfl hr0).mono ?_
      rintro e w' ⟨t1, t2, rfl, h1, h2, h3⟩
      exact ⟨t1, t2, _, _, rfl, h1, h2, fun i => by omega, h3⟩
  · by_cases k2 : kd = 2
    · subst k2
      refine (stepA_hold_none g b n N s1 s2 R M w hp hr hh).mono ?_
      rintro e w' ⟨t1, t2, rfl, h1, h2, h3⟩
      exact ⟨t1, t2, _, _, rfl, h1, h2, fun i => by omega, h3⟩
    by_cases k3 : kd = 3
    · subst k3
      refine (stepA_drop_none g b n N s1 s2 R M w hp hr hh).mono ?_
      rintro e w' ⟨t1, t2, rfl, h1, h2, h3⟩
      exact ⟨t1, t2, _, _, rfl, h1, h2, fun i => by omega, h3⟩
    · refine (stepA_get_none g b n N kd (beq_eq_false_iff_ne.2 k1) (beq_eq_false_iff_ne.2 k2) (beq_eq_false_iff_ne.2 k3) s1 s2 R M w hp hr hh).mono ?_
      rintro e w' ⟨t1, t2, rfl, h1, h2, h3⟩
      exact ⟨t1, t2, _, _, rfl, h1, h2, fun i => by omega, h3⟩

theorem stepB_any (g b n : Nat) (kd N : Int) (s1 s2 : Value) (R M : List Int) (w : World) (hp : PoolAt w g b n R M) (hr : RefAt w g b 0 [] [] s1 s2) (hb : ∀ i, Ls.nth R i < 90000) :
    Calls Try.prog 10 #[.pointer (some ⟨g, 0, none⟩), .agg #[s1, s2], .agg #[.int .i64 kd, .int .i64 N]] w fun e w' => ∃ v R' M', e = .returned v ∧ PoolAt w' g b n R' M' ∧ (∀ i, Ls.nth R' i ≤ Ls.nth R i + 1) ∧ (∀ i : Nat, 0 < Ls.nth R i → ¬ (i : Int) = N → Ls.nth R' i = Ls.nth R i ∧ Ls.nth M' i = Ls.nth M i) ∧ But2 g b w w' := by
  obtain ⟨_, lR, lM, hn, hnn⟩ := hp.nums
  by_cases k1 : kd = 1
  · subst k1
    rcases Po.free_cases R with h | ⟨k, hk, h0, hl⟩
    · refine (stepB_put_full g b n N s1 s2 R M w hp hr h).mono ?_
      rintro e w' ⟨v, rfl, h1, h3⟩
      exact ⟨v, _, _, rfl, h1, fun i => by omega, fun i _ _ => ⟨rfl, rfl⟩, h3⟩
    · refine (stepB_put_ok g b n k N s1 s2 R M w hp hr (by omega) h0 hl).mono ?_
      rintro e w' ⟨v, rfl, h1, h3⟩
      exact ⟨v, _, _, rfl, h1, Po.set_le hk h0 (by omega), fun i hi _ => by
        have : ¬ i = k := fun e => by rw [e, h0] at hi; omega
        exact ⟨Po.set_off hk _ this, Po.set_off (by omega) _ this⟩, h3⟩
  by_cases hh : 0 ≤ N ∧ N < n ∧ 0 < Ls.nth R N.toNat
  · obtain ⟨k, rfl⟩ : ∃ k : Nat, N = k := ⟨N.toNat, by omega⟩
    have hk : k < n := by omega
    have hr0 : 0 < Ls.nth R k := by simpa using hh.2.2
    have hkR : k < R.length := by omega
    have hbk := hb k
    have off : ∀ y, ∀ i : Nat, 0 < Ls.nth R i → ¬ (i : Int) = (k : Int) → Ls.nth (R.set k y) i = Ls.nth R i ∧ Ls.nth M i = Ls.nth M i := fun y i _ hi => ⟨Po.set_off hkR _ (fun e => hi (by rw [e])), rfl⟩
    by_cases k2 : kd = 2
    · subst k2
      refine (stepB_hold_ok g b n k _ s1 s2 R M w hp hr hk rfl hr0 (by omega)).mono ?_
      rintro e w' ⟨v, rfl, h1, h3⟩
      exact ⟨v, _, _, rfl, h1, Po.set_le hkR rfl (by omega), off _, h3⟩
    by_cases k3 : kd = 3
    · subst k3
      by_cases e1 : Ls.nth R k = 1
      · refine (stepB_drop_last g b n k s1 s2 R M w hp hr hk e1).mono ?_
        rintro e w' ⟨v, rfl, h1, h3⟩
        exact ⟨v, _, _, rfl, h1, Po.set_le hkR e1 (by omega), off _, h3⟩
      · refine (stepB_drop_more g b n k _ s1 s2 R M w hp hr hk rfl (by omega) (by omega)).mono ?_
        rintro e w' ⟨v, rfl, h1, h3⟩
        exact ⟨v, _, _, rfl, h1, Po.set_le hkR rfl (by omega), off _, h3⟩
    · refine (stepB_get_some g b n k kd (beq_eq_false_iff_ne.2 k1) (beq_eq_false_iff_ne.2 k2) (beq_eq_false_iff_ne.2 k3) _ s1 s2 R M w hp hr hk rfl hr0).mono ?_
      rintro e w' ⟨v, rfl, h1, h3⟩
      exact ⟨v, _, _, rfl, h1, fun i => by omega, fun i _ _ => ⟨rfl, rfl⟩, h3⟩
  · by_cases k2 : kd = 2
    · subst k2
      refine (stepB_hold_none g b n N s1 s2 R M w hp hr hh).mono ?_
      rintro e w' ⟨v, rfl, h1, h3⟩
      exact ⟨v, _, _, rfl, h1, fun i => by omega, fun i _ _ => ⟨rfl, rfl⟩, h3⟩
    by_cases k3 : kd = 3
    · subst k3
      refine (stepB_drop_none g b n N s1 s2 R M w hp hr hh).mono ?_
      rintro e w' ⟨v, rfl, h1, h3⟩
      exact ⟨v, _, _, rfl, h1, fun i => by omega, fun i _ _ => ⟨rfl, rfl⟩, h3⟩
    · refine (stepB_get_none g b n N kd (beq_eq_false_iff_ne.2 k1) (beq_eq_false_iff_ne.2 k2) (beq_eq_false_iff_ne.2 k3) s1 s2 R M w hp hr hh).mono ?_
      rintro e w' ⟨v, rfl, h1, h3⟩
      exact ⟨v, _, _, rfl, h1, fun i => by omega, fun i _ _ => ⟨rfl, rfl⟩, h3⟩
end Go.Proofs.Ytgpjmbhcfjafmaa
/- What layer 10's laws share: a slice of pairs that came in, the law's own box of the document's pool. -/
namespace Go.Proofs.Ytgpjmbhcfjafmaa
set_option linter.unusedVariables false
open Go.RowKit

/-- The frame's word of a slice of pairs of numbers that came in. -/
def IsPairs (w : World) (a : Option Addr) (len cap : Nat) : Prop :=
  (a = none ∧ len = 0 ∧ cap = 0) ∨
  ∃ x, a = some x ∧ len ≤ cap ∧ cap ≤ maxLen ∧ ∀ i, i < len → ∃ k n : Int, w.cell? (x.add (i * 2)) = some (.int .i64 k) ∧ w.cell? (x.add (i * 2 + 1)) = some (.int .i64 n) ∧ (-9223372036854775808 ≤ n ∧ n ≤ 9223372036854775807)
/-- THE SLICE AT a READS AS n PAIRS, the i-th one K i and N i. -/
def Prs (w : World) (a : Option Addr) (n : Nat) (K N : Nat → Int) : Prop :=
  ∀ i, i < n → ∃ b o, a = some ⟨b, o, none⟩ ∧ w.cell? ⟨b, o + i * 2, none⟩ = some (.int .i64 (K i)) ∧ w.cell? ⟨b, o + i * 2 + 1, none⟩ = some (.int .i64 (N i))
theorem Prs.keep {w w' : World} {a : Option Addr} {n : Nat} {K N : Nat → Int} (h : Prs w a n K N) (hb : Below w.heap.size w w') : Prs w' a n K N := fun i hi => by
  obtain ⟨b, o, e, h1, h2⟩ := h i hi
  have hlt := World.block_lt_of_cell? w _ h1
  refine ⟨b, o, e, ?_, ?_⟩
  · rw [hb.cell (p := ⟨b, o + i * 2, none⟩) hlt]; exact h1
  · rw [hb.cell (p := ⟨b, o + i * 2 + 1, none⟩) hlt]; exact h2
theorem pairs_open {w : World} {a : Option Addr} {len cap : Nat} (h : IsPairs w a len cap) :
    ∃ K N : Nat → Int, Prs w a len K N ∧ (∀ i, i < len → -9223372036854775808 ≤ N i ∧ N i ≤ 9223372036854775807) ∧ len ≤ maxLen := by
  rcases h with ⟨rfl, rfl, rfl⟩ | ⟨x, rfl, h1, h2, h3⟩
  · exact ⟨fun _ => 0, fun _ => 0, fun i hi => by omega, fun i hi => by omega, Nat.zero_le _⟩
  · have each : ∀ i, i < len → ∃ q : Int × Int, w.cell? (x.add (i * 2)) = some (.int .i64 q.1) ∧ w.cell? (x.add (i * 2 + 1)) = some (.int .i64 q.2) ∧ (-9223372036854775808 ≤ q.2 ∧ q.2 ≤ 9223372036854775807) := by
      intro i hi
      obtain ⟨k, n, q⟩ := h3 i hi
      exact ⟨(k, n), q⟩
    obtain ⟨q, hq⟩ := Go.Deep.choose_lt each
    refine ⟨fun i => (q i).1, fun i => (q i).2, ?_, fun i hi => (hq i hi).2.2, by omega⟩
    intro i hi
    have h0 := (hq 0 (by omega)).1
    have hs : x.spot = none := by
      simp [Addr.add, World.cell?] at h0
      cases hx : x.spot
      · rfl
      · rw [hx] at h0; simp at h0; split at h0 <;> simp_all
    obtain ⟨b, o, sp⟩ := x
    simp at hs
    subst hs
    have c1 := (hq i hi).1
    have c2 := (hq i hi).2.1
    rw [Addr.add_lit] at c1 c2
    exact ⟨b, o, rfl, c1, by rw [Nat.add_assoc]; exact c2⟩

/-- A store into a box of two slices leaves each list of numbers. -/
theorem Lst.box {w : World} {k : IntKind} {a : Option Addr} {l : List Int} (h : Lst k w a l) {H : Nat} {t : TypeId} {A B : Option Addr} {n m c d : Nat} (hr : w.rowIs H t 2 (rfc (.slice A n c) (.slice B m d))) (o : Nat) (y : Value) : Lst k (w.setCell ⟨H, o, none⟩ y) a l := fun i hi => by
  obtain ⟨b, o', e, hc⟩ := h i hi
  refine ⟨b, o', e, ?_⟩
  by_cases e1 : b = H
  · subst e1
    exfalso
    have h0 := hr.cell (show 0 < 2 by decide)
    have h1 := hr.cell (show 1 < 2 by decide)
    obtain ⟨cs, hcs, hn, _⟩ := hr
    by_cases e2 : o' + i = 0
    · rw [e2, h0] at hc; cases hc
    · by_cases e3 : o' + i = 1
      · rw [e3, h1] at hc; cases hc
      · rw [cell_of_row w b (o' + i) cs t (0, 0) hcs] at hc
        have : cs[o' + i]? = none := by simp; omega
        rw [this] at hc
        cases hc
  · rw [World.cell?_of_block (w := w) (Below.heap_setCell _ _ _ _ (show b ≠ H from e1))]
    exact hc
/-- The law's own box of the document's pool: at H, with these lists. -/
def OwnRef (w : World) (g b n : Nat) (R M : List Int) (H : Nat) (s1 s2 : Value) : Prop := w.rowIs H 30 2 (rfc s1 s2) ∧ RefAt w g b n R M s1 s2 ∧ ¬ g = H ∧ ¬ b = H
theorem OwnRef.keep {w w' : World} {g b n : Nat} {R M : List Int} {H : Nat} {s1 s2 : Value} (h : OwnRef w g b n R M H s1 s2) (hb : Below w.heap.size w w') : OwnRef w' g b n R M H s1 s2 := ⟨h.1.of_block (hb.block _ h.1.lt), h.2.1.keep hb, h.2.2⟩
theorem OwnRef.cells {w : World} {g b n : Nat} {R M : List Int} {H : Nat} {s1 s2 : Value} (h : OwnRef w g b n R M H s1 s2) : w.cell? ⟨H, 0, none⟩ = some s1 ∧ w.cell? ⟨H, 1, none⟩ = some s2 := ⟨h.1.cell (show 0 < 2 by decide), h.1.cell (show 1 < 2 by decide)⟩
/-- The answer is laid into the box. -/
theorem OwnRef.put {w w' : World} {g b n : Nat} {R M R' M' : List Int} {H : Nat} {s1 s2 t1 t2 : Value} (h : OwnRef w g b n R M H s1 s2) (hb : But2 g b w w') (hr : RefAt w' g b n R' M' t1 t2) : OwnRef ((w'.setCell ⟨H, 0, none⟩ t1).setCell ⟨H, 1, none⟩ t2) g b n R' M' H t1 t2 := by
  obtain ⟨x1, d1, x2, d2, rfl, rfl, _⟩ := h.2.1
  obtain ⟨a1, c1, a2, c2, rfl, rfl, h1, h2, h3, h4, h5, h6⟩ := hr
  have r0 : w'.rowIs H 30 2 (rfc (.slice x1 n d1) (.slice x2 n d2)) := h.1.of_block (hb.2 _ h.1.lt (fun e => h.2.2.1 e.symm) (fun e => h.2.2.2 e.symm))
  have r1 : (w'.setCell ⟨H, 0, none⟩ (.slice a1 n c1)).rowIs H 30 2 (rfc (.slice a1 n c1) (.slice x2 n d2)) := (r0.set 0 _).congr (fun j hj => rfc_set0 _ _ _ j hj)
  exact ⟨(r1.set 1 _).congr (fun j hj => rfc_set1 _ _ _ j hj), ⟨a1, c1, a2, c2, rfl, rfl, (h1.box r0 0 _).box r1 1 _, (h2.box r0 0 _).box r1 1 _, h3, h4, h5, h6⟩, h.2.2⟩
theorem OwnRef.pool {w w' : World} {g b n : Nat} {R M R' M' : List Int} {H : Nat} {s1 s2 : Value} (h : OwnRef w g b n R M H s1 s2) (hb : But2 g b w w') (hp : PoolAt w' g b n R' M') (t1 t2 : Value) : PoolAt ((w'.setCell ⟨H, 0, none⟩ t1).setCell ⟨H, 1, none⟩ t2) g b n R' M' := by
  have r0 : w'.rowIs H 30 2 (rfc s1 s2) := h.1.of_block (hb.2 _ h.1.lt (fun e => h.2.2.1 e.symm) (fun e => h.2.2.2 e.symm))
  exact (hp.box r0 h.2.2.1 h.2.2.2 0 t1).box (r0.set 0 t1) h.2.2.1 h.2.2.2 1 t2
theorem own_cells {w w' : World} {g b n : Nat} {R M : List Int} {H : Nat} {s1 s2 : Value} (h : OwnRef w g b n R M H s1 s2) (hb : But2 g b w w') : (w'.cell? ⟨H, 0, none⟩ = some s1 ∧ w'.cell? ⟨H, 1, none⟩ = some s2) ∧ w'.frozen? ⟨H, 0, none⟩ = false ∧ w'.frozen? ⟨H, 1, none⟩ = false := by
  have r0 : w'.rowIs H 30 2 (rfc s1 s2) := h.1.of_block (hb.2 _ h.1.lt (fun e => h.2.2.1 e.symm) (fun e => h.2.2.2 e.symm))
  exact ⟨⟨r0.cell (show 0 < 2 by decide), r0.cell (show 1 < 2 by decide)⟩, r0.frozen 0, r0.frozen 1⟩
theorem row_openP {w : World} {a : Option Addr} {len cap : Nat} {zs : List Int}
    (h : (a = none ∧ len = 0 ∧ cap = 0 ∧ zs = []) ∨ ∃ x, a = some x ∧ len ≤ cap ∧ cap ≤ maxLen ∧ zs.length = cap ∧ (∀ i, i < zs.length → w.cell? (x.add i) = some (.int .i64 (zs.getD i 0))) ∧ ∀ n ∈ zs, (Lit.int .i64 n).wf = true) :
    ∃ l : List Int, l.length = len ∧ Lst .i64 w a l ∧ len ≤ maxLen := by
  rcases h with ⟨rfl, rfl, rfl, rfl⟩ | ⟨x, rfl, h1, h2, h3, h4, h5⟩
  · exact ⟨[], rfl, Lst.nil _ _ _, Nat.zero_le _⟩
  · exact ⟨zs.take len, by simp; omega, lst_of_cells (by omega) h4, by omega⟩
/-- A store into a row of another kind than a page's. -/
theorem PoolAt.apart {w : World} {g b n : Nat} {R M : List Int} (h : PoolAt w g b n R M) {H m : Nat} {t : TypeId} {f : Nat → Value} (hr : w.rowIs H t m f) (ht : ¬ t = 78) (h1 : ¬ g = H) (h2 : ¬ b = H) (o : Nat) (y : Value) : PoolAt (w.setCell ⟨H, o, none⟩ y) g b n R M := by
  obtain ⟨P, r1, r2, r3, r4, r5, r6, r7, r8⟩ := h
  refine ⟨P, r1.of_block (Below.heap_setCell _ _ _ _ (show g ≠ H from h1)), r2.of_block (Below.heap_setCell _ _ _ _ (show b ≠ H from h2)), r3, r4, r5, r6, r7, fun i hi hr' => ?_⟩
  obtain ⟨q, e, n1, n2, hq⟩ := r8 i hi hr'
  refine ⟨q, e, n1, n2, hq.of_block (Below.heap_setCell _ _ _ _ (show q ≠ H from fun eq => ?_))⟩
  obtain ⟨fq, _, _, _, _, _, _, hrow, _⟩ := hq
  subst eq
  obtain ⟨c1, e1, z1, _⟩ := hr
  obtain ⟨c2, e2, z2, _⟩ := hrow
  rw [e1] at e2
  cases e2
  exact ht rfl
theorem PoolAt.len {w : World} {g b n : Nat} {R M : List Int} (h : PoolAt w g b n R M) : R.length = n ∧ M.length = n := ⟨h.nums.2.1, h.nums.2.2.1⟩
/-- All slots held once but one. -/
theorem Po.cnt_one {R : List Int} {d : Nat} (hd : d < R.length) (h : ∀ t, t < R.length → Ls.nth R t = 1) : Po.cnt (R.set d 0) = 1 := by
  have h1 := Po.cnt_set hd 0
  have h2 := h d hd
  have h3 : Po.cnt R = 0 := Po.cnt_zero fun i hi => by have := h i hi; omega
  rw [if_neg (by omega), if_pos rfl] at h1
  omega
end Go.Proofs.Ytgpjmbhcfjafmaa
