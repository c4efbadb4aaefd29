/- What all calls of layer 11's law share: the call's own box, the play's cells. -/
import Derived.Test.YtpifemahakbegaaBkA
namespace Go.Proofs.Ytpifemahakbegaa
set_option linter.unusedVariables false
set_option linter.unusedSimpArgs false
open Go.RowKit

theorem Box.cells {B : Nat} {w : World} {P g k : Nat} {s1 s2 va vr : Value} {T : Nat → Nat} {D : Nat → Value} {col : Nat → Nat} (h : Box B w P g k s1 s2 va vr T D col) {a : Nat} (ha : a < k) :
    ∃ ab ac rb rc, va = .slice (some ⟨ab, 0, none⟩) k ac ∧ vr = .slice (some ⟨rb, 0, none⟩) k rc ∧ w.cell? ⟨ab, a, none⟩ = some (.pointer (some ⟨T a, 0, none⟩)) ∧ w.cell? ⟨rb, a, none⟩ = some (D a) ∧ ab < w.heap.size ∧ rb < w.heap.size := by
  obtain ⟨h1, h2, h3, _⟩ := h
  obtain ⟨ab, ac, e1, _, l1⟩ := h2.form (by omega)
  obtain ⟨rb, rc, e2, _, l2⟩ := h3.form (by omega)
  subst e1 e2
  refine ⟨ab, ac, rb, rc, rfl, rfl, ?_, ?_, l1, l2⟩
  · rw [h2.cellAt a (by omega)]; simp [ptrs, ha]
  · rw [h3.cellAt a (by omega)]; simp [ha]
/-- The four cells of a call. -/
def opc (kd tb row N : Int) (i : Nat) : Value := if i = 0 then .int .i64 kd else if i = 1 then .int .i64 tb else if i = 2 then .int .i64 row else .int .i64 N
theorem op_alloc (w : World) (kd tb row N : Int) : (w.alloc (.cells #[.int .i64 kd, .int .i64 tb, .int .i64 row, .int .i64 N] 27)).rowIs w.heap.size 27 4 (opc kd tb row N) :=
  World.rowIs_alloc w #[.int .i64 kd, .int .i64 tb, .int .i64 row, .int .i64 N] 27 (opc kd tb row N) (by
    intro i hi
    match i, hi with
    | 0, _ => rfl
    | 1, _ => rfl
    | 2, _ => rfl
    | 3, _ => rfl)

theorem turns_down {n : Nat} {R l : List Int} (hR : R.length = n) (hx : ∀ x, x ∈ l → 0 ≤ x ∧ x < n) (ho : ∀ k : Nat, k < n → (Bk.occ k l : Int) ≤ Ls.nth R k) (hb : ∀ k, k < n → Ls.nth R k ≤ 1000) : Turns n l.length R l (-1) := fun j hj => by
  have h1 := hx _ (Bk.mem_nth hj)
  obtain ⟨t, et⟩ : ∃ t : Nat, Ls.nth l j = t := ⟨(Ls.nth l j).toNat, by omega⟩
  have hot := Bk.occ_take hj
  rw [et] at h1 hot
  have htn : t < n := by omega
  have hc := Bk.nth_take (d := -1) (l := l) j hR hx htn
  have h2 := ho t htn
  have h3 := hb t htn
  exact ⟨t, _, htn, et, rfl, by rw [hc]; omega, by rw [hc]; omega⟩
theorem turns_up {n : Nat} {R l : List Int} (hR : R.length = n) (hx : ∀ x, x ∈ l → (0 ≤ x ∧ x < n) ∧ 0 < Ls.nth R x.toNat) (hb : ∀ k, k < n → Ls.nth R k ≤ 1000) (hl : l.length ≤ 1000) : Turns n l.length R l 1 := fun j hj => by
  have h1 := hx _ (Bk.mem_nth hj)
  obtain ⟨t, et⟩ : ∃ t : Nat, Ls.nth l j = t := ⟨(Ls.nth l j).toNat, by omega⟩
  rw [et] at h1
  have htn : t < n := by omega
  have hc := Bk.nth_take (d := 1) (l := l) j hR (fun x hxm => (hx x hxm).1) htn
  have h2 : 0 < Ls.nth R t := by simpa using h1.2
  have h3 := hb t htn
  have h4 := Bk.occ_le t (l.take j)
  have h5 : (l.take j).length ≤ 1000 := by rw [List.length_take]; omega
  exact ⟨t, _, htn, et, rfl, by rw [hc]; omega, by rw [hc]; omega⟩
/-- The document's rows with another table's in place a. -/
def upd (D : Nat → Value) (a : Nat) (v : Value) : Nat → Value := fun i => if i = a then v else D i
theorem map_upd (D : Nat → Value) (k a : Nat) (v : Value) : ((List.range k).map D).set a v = (List.range k).map (upd D a v) := by
  apply List.ext_getElem
  · simp
  · intro i h1 h2
    simp only [List.getElem_set, List.getElem_map, List.getElem_range]
    unfold upd
    by_cases e : a = i
    · rw [if_pos e, if_pos e.symm]
    · rw [if_neg e, if_neg (fun q => e q.symm)]
theorem Docs.rows {w : World} {n m k a : Nat} {R M : List Int} {s1 s2 v : Value} {D : Nat → Value} {L : Nat → Nat → List Int} {l : Nat → List Int} {col : Nat → Nat} (h : Docs w n m k R M s1 s2 D L col) (hv : Rws w v m l (fun q => col q = 0)) : Docs w n m k R M s1 s2 (upd D a v) (Bk.put L a l) col := by
  refine ⟨h.1, fun i hi => ?_⟩
  unfold upd
  by_cases e : i = a
  · rw [if_pos e, e, Bk.put_at]; exact hv
  · rw [if_neg e, Bk.put_off L l e]; exact h.2 i hi
theorem Docs.more {w : World} {n m k : Nat} {R M : List Int} {s1 s2 v : Value} {D : Nat → Value} {L : Nat → Nat → List Int} {l : Nat → List Int} {col : Nat → Nat} (h : Docs w n m k R M s1 s2 D L col) (hv : Rws w v m l (fun q => col q = 0)) : Docs w n m (k + 1) R M s1 s2 (upd D k v) (Bk.put L k l) col := by
  refine ⟨h.1, fun i hi => ?_⟩
  unfold upd
  by_cases e : i = k
  · rw [if_pos e, e, Bk.put_at]; exact hv
  · rw [if_neg e, Bk.put_off L l e]; exact h.2 i (by omega)
theorem Docs.list1 {w : World} {n m k c : Nat} {a : Option Addr} {R R' M : List Int} {s1 s2 : Value} {D : Nat → Value} {L : Nat → Nat → List Int} {col : Nat → Nat} (h : Docs w n m k R M s1 s2 D L col) (hl : Lst .i64 w a R') (hn : a = none → c = 0) (hc : ∀ x, a = some x → 0 < n → col x.block = 0) (hR : R'.length = n) : Docs w n m k R' M (.slice a n c) s2 D L col := by
  obtain ⟨⟨a1, c1, a2, c2, e1, e2, h1, h2, h3, h4, h5, h6, l1, l2⟩, hd⟩ := h
  exact ⟨⟨a, c, a2, c2, rfl, e2, hl, h2, hn, h4, hc, h6, hR, l2⟩, hd⟩
theorem Docs.lists {w : World} {n m k c c' : Nat} {a a' : Option Addr} {R R' M M' : List Int} {s1 s2 : Value} {D : Nat → Value} {L : Nat → Nat → List Int} {col : Nat → Nat} (h : Docs w n m k R M s1 s2 D L col) (hl : Lst .i64 w a R') (hl' : Lst .i64 w a' M') (hn : a = none → c = 0) (hn' : a' = none → c' = 0) (hc : ∀ x, a = some x → 0 < n → col x.block = 0) (hc' : ∀ x, a' = some x → 0 < n → col x.block = 0) (hR : R'.length = n) (hM : M'.length = n) : Docs w n m k R' M' (.slice a n c) (.slice a' n c') D L col :=
  ⟨⟨a, c, a', c', rfl, rfl, hl, hl', hn, hn', hc, hc', hR, hM⟩, h.2⟩
/-- A table of the document's is laid anew. -/
theorem Box.rows {B : Nat} {w : World} {P g k a rb rc : Nat} {s1 s2 va : Value} {T : Nat → Nat} {D : Nat → Value} {col : Nat → Nat} (h : Box B w P g k s1 s2 va (.slice (some ⟨rb, 0, none⟩) k rc) T D col) (ha : a < k) (v : Value) : Box B (w.setCell ⟨rb, a, none⟩ v) P g k s1 s2 va (.slice (some ⟨rb, 0, none⟩) k rc) T (upd D a v) col := by
  obtain ⟨h1, h2, h3, h4, h5, h6⟩ := h
  have tr := ty_own h3 (q := rb) rfl
  refine ⟨h1.of_block (Below.heap_setCell _ _ _ _ (show P ≠ rb from (ty_row h1).ne tr (by decide))), own_at h2 fun q hq => Below.heap_setCell _ _ _ _ (show q ≠ rb from (ty_own h2 hq).ne tr (by decide)), ?_, h4, h5, h6⟩
  rw [← map_upd]
  exact (h3.stored a v).1
/-- The document's pool is laid anew. -/
theorem Box.pool {B : Nat} {w : World} {P g k : Nat} {s1 s2 t1 t2 va vr : Value} {T : Nat → Nat} {D : Nat → Value} {col : Nat → Nat} (h : Box B w P g k s1 s2 va vr T D col) : Box B ((w.setCell ⟨P, 1, none⟩ t1).setCell ⟨P, 2, none⟩ t2) P g k t1 t2 va vr T D col := by
  obtain ⟨h1, h2, h3, h4, h5, h6⟩ := h
  have st : ∀ q, ¬ q = P → ((w.setCell ⟨P, 1, none⟩ t1).setCell ⟨P, 2, none⟩ t2).heap[q]? = w.heap[q]? := fun q n => by
    rw [Below.heap_setCell _ _ _ _ (show q ≠ P from n), Below.heap_setCell _ _ _ _ (show q ≠ P from n)]
  exact ⟨(((h1.set 1 _).congr (fun i hi => plc_set1 _ _ _ _ _ _ i hi)).set 2 _).congr (fun i hi => plc_set2 _ _ _ _ _ _ i hi), own_at h2 fun q hq => st q ((ty_own h2 hq).ne (ty_row h1) (by decide)), own_at h3 fun q hq => st q ((ty_own h3 hq).ne (ty_row h1) (by decide)), h4, h5, h6⟩
theorem Box.ButP {B : Nat} {w w' : World} {P g k : Nat} {s1 s2 t1 t2 va vr : Value} {T : Nat → Nat} {D : Nat → Value} {col : Nat → Nat} (h : Box B w P g k s1 s2 va vr T D col) (hb : ButP P w w') (hr : w'.rowIs P 37 5 (plc g t1 t2 va vr)) : Box B w' P g k t1 t2 va vr T D col := by
  obtain ⟨h1, h2, h3, h4, h5, h6⟩ := h
  refine ⟨hr, own_at h2 fun q hq => ?_, own_at h3 fun q hq => ?_, h4, h5, h6⟩
  · have := (ty_own h2 hq).ne (ty_row h1) (by decide); exact hb.block (h2.lt q hq).2 this this id
  · have := (ty_own h3 hq).ne (ty_row h1) (by decide); exact hb.block (h3.lt q hq).2 this this id
theorem grown_one {w W w1 : World} {v : Value} {H : Nat} (h : W.grownBy w1 v.ownBlock) (hW : Below w.heap.size w W) (hv : v.ownBlock = some H) : (∀ q, q < w.heap.size → ¬ q = H → w1.heap[q]? = w.heap[q]?) ∧ w.heap.size ≤ w1.heap.size ∧ ∀ B, B ≤ H → B ≤ w.heap.size → Below B w w1 := by
  have far : ∀ q, q < w.heap.size → ¬ q = H → w1.heap[q]? = w.heap[q]? := fun q hq hn => by
    rw [h.block q (by have := hW.size; omega) (fun e => hn (by rw [hv] at e; cases e; rfl)), hW.block q hq]
  exact ⟨far, Nat.le_trans hW.size h.size, fun B hB hs => ⟨h.os.trans hW.os, h.tape.trans hW.tape, h.output.trans hW.output, Nat.le_trans hW.size h.size, fun q hq => far q (by omega) (by omega)⟩⟩
theorem ptrs_snoc (T : Nat → Nat) (k U : Nat) : ptrs T k ++ [.pointer (some ⟨U, 0, none⟩)] = ptrs (tn T k U) (k + 1) := by
  unfold ptrs
  rw [List.range_succ, List.map_append]
  congr 1
  · exact List.map_congr_left fun i hi => by rw [List.mem_range] at hi; rw [tn_off T U (by omega)]
  · simp [tn_at]
theorem upd_snoc (D : Nat → Value) (k : Nat) (v : Value) : (List.range k).map D ++ [v] = (List.range (k + 1)).map (upd D k v) := by
  rw [List.range_succ, List.map_append]
  congr 1
  · exact List.map_congr_left fun i hi => by rw [List.mem_range] at hi; unfold upd; rw [if_neg (by omega)]
  · simp [upd]
/-- Two blocks more are the play's own. -/
def two (x y : Nat) (col : Nat → Nat) : Nat → Nat := fun q => if q = x ∨ q = y then 1000 else col q
theorem two_x (x y : Nat) (col : Nat → Nat) : two x y col x = 1000 := if_pos (.inl rfl)
theorem two_y (x y : Nat) (col : Nat → Nat) : two x y col y = 1000 := if_pos (.inr rfl)
theorem two_off {x y q : Nat} (col : Nat → Nat) (h1 : ¬ q = x) (h2 : ¬ q = y) : two x y col q = col q := if_neg (by omega)
theorem Fresh.fork {B : Nat} {w w' : World} {col : Nat → Nat} {U c : Nat} (h : Fresh B w col) (hs : w.heap.size ≤ w'.heap.size) (hU : w.heap.size ≤ U) (hl : U < w'.heap.size) : Fresh B w' (recol2 U w.heap.size w'.heap.size c col) :=
  ⟨fun q hq => by rw [recol2_past hl hq]; exact h.1 q (by omega), fun q hq => by
    by_cases hsq : q < w.heap.size
    · rw [recol2_old hU hsq] at hq; exact h.2.1 q hq
    · have := h.2.2; omega, by have := h.2.2; omega⟩
theorem ButP.below {P B : Nat} {w v : World} (h : ButP P w v) (hP : B ≤ P) (hs : B ≤ w.heap.size) : Below B w v := ButQ.below h hP hP hs (fun _ h => h.elim)
theorem d_list {w : World} {n m k c1 c2 : Nat} {a1 a2 : Option Addr} {R M : List Int} {D : Nat → Value} {L : Nat → Nat → List Int} {col : Nat → Nat} (h : Docs w n m k R M (.slice a1 n c1) (.slice a2 n c2) D L col) : Lst .i64 w a1 R ∧ R.length = n ∧ (a1 = none → c1 = 0) ∧ ∀ x, a1 = some x → 0 < n → col x.block = 0 := by
  obtain ⟨x1, y1, x2, y2, e1, e2, h1, h2, h3, h4, h5, h6, l1, l2⟩ := h.1
  cases e1
  cases e2
  exact ⟨h1, l1, h3, h5⟩
theorem d_list2 {w : World} {n m k c1 c2 : Nat} {a1 a2 : Option Addr} {R M : List Int} {D : Nat → Value} {L : Nat → Nat → List Int} {col : Nat → Nat} (h : Docs w n m k R M (.slice a1 n c1) (.slice a2 n c2) D L col) : Lst .i64 w a1 R ∧ Lst .i64 w a2 M ∧ R.length = n ∧ M.length = n ∧ (a1 = none → c1 = 0) ∧ (a2 = none → c2 = 0) ∧ (∀ x, a1 = some x → 0 < n → col x.block = 0) ∧ ∀ x, a2 = some x → 0 < n → col x.block = 0 := by
  obtain ⟨x1, y1, x2, y2, e1, e2, h1, h2, h3, h4, h5, h6, l1, l2⟩ := h.1
  cases e1
  cases e2
  exact ⟨h1, h2, l1, l2, h3, h4, h5, h6⟩
theorem Try.infoTab : (Try.prog.info? 38).map (fun i => (i.zero, i.size, i.bytes)) = some (some (.pointer none), 1, 8) := by kernel_rfl
theorem Try.infoRows : (Try.prog.info? 53).map (fun i => (i.zero, i.size, i.bytes)) = some (some (.slice none 0 0), 1, 24) := by kernel_rfl
end Go.Proofs.Ytpifemahakbegaa
