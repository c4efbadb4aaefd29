/- A slice of numbers in memory reads as a list: what that says, and that it stands as long as nothing old is turned. -/
import Derived.Test.YtgjghnbhpnflfaaRows
import Derived.Test.YtgjghnbhpnflfaaLsMath
import Derived.WalkKit
import Derived.ProofKit
import Derived.OpenShut
import Derived.Deep.OwnRows
import Derived.Deep.QuietTactic
import Derived.BigQuiet
import Derived.WalkSmall
import Derived.Laws.AppendOwnNone
namespace Go.Proofs.Ytgjghnbhpnflfaa
set_option linter.unusedVariables false
open Go.RowKit

theorem ret_bool {a b : Bool} (h : a = b) : Ending.returned (.bool a) = .returned (.bool b) := by rw [h]
theorem ret_num {k : IntKind} {a b : Int} (h : a = b) : Ending.returned (.int k a) = .returned (.int k b) := by rw [h]
theorem dec_yes {p : Prop} [Decidable p] {b : Bool} (h : p) (hb : b = true) : decide p = b := by rw [hb]; exact decide_eq_true h
theorem dec_no {p : Prop} [Decidable p] {b : Bool} (h : ¬ p) (hb : b = false) : decide p = b := by rw [hb]; exact decide_eq_false h

/-- THE SLICE THAT BEGINS AT a READS AS THE LIST l, its numbers of kind k. -/
def Lst (k : IntKind) (w : World) (a : Option Addr) (l : List Int) : Prop :=
  ∀ i, i < l.length → ∃ b o, a = some ⟨b, o, none⟩ ∧ w.cell? ⟨b, o + i, none⟩ = some (.int k (Ls.nth l i))

theorem Lst.get {k : IntKind} {w : World} {a : Option Addr} {l : List Int} (h : Lst k w a l) {i : Nat} (hi : i < l.length) :
    ∃ b o, a = some ⟨b, o, none⟩ ∧ ∀ j, j < l.length → w.cell? ⟨b, o + j, none⟩ = some (.int k (Ls.nth l j)) := by
  obtain ⟨b, o, rfl, _⟩ := h i hi
  refine ⟨b, o, rfl, fun j hj => ?_⟩
  obtain ⟨b', o', e, hc⟩ := h j hj
  simp at e
  obtain ⟨rfl, rfl⟩ := e
  exact hc

theorem Lst.nil (k : IntKind) (w : World) (a : Option Addr) : Lst k w a [] := fun i hi => by simp at hi

theorem Lst.keep {k : IntKind} {w w' : World} {a : Option Addr} {l : List Int} (h : Lst k w a l) (hb : Below w.heap.size w w') : Lst k w' a l := fun i hi => by
  obtain ⟨b, o, e, hc⟩ := h i hi
  refine ⟨b, o, e, ?_⟩
  rw [hb.cell (p := ⟨b, o + i, none⟩) (World.block_lt_of_cell? w _ hc)]
  exact hc

theorem Lst.draws {k : IntKind} {w : World} {a : Option Addr} {l : List Int} (h : Lst k w a l) (n : Nat) : Lst k (w.drewN n) a l := fun i hi => by
  obtain ⟨b, o, e, hc⟩ := h i hi
  exact ⟨b, o, e, by simpa using hc⟩

theorem below_then {w0 w w' : World} (h : Below w0.heap.size w0 w) (k : Below w.heap.size w w') : Below w0.heap.size w0 w' := h.trans (k.mono h.size)

/-- Out of the frame's own word of a slice that came in. -/
theorem lst_of_cells {k : IntKind} {w : World} {x : Addr} {zs : List Int} {n : Nat} (hn : n ≤ zs.length) (h : ∀ i, i < zs.length → w.cell? (x.add i) = some (.int k (zs.getD i 0))) : Lst k w (some x) (zs.take n) := by
  intro i hi
  simp at hi
  have hi' : i < zs.length := by omega
  have h0 := h 0 (by omega)
  have hs : x.spot = none := by
    simp [Addr.add, World.cell?] at h0
    cases hx : x.spot
    · rfl
    · rw [hx] at h0; simp at h0; split at h0 <;> simp_all
  obtain ⟨b, o, s⟩ := x
  simp at hs
  subst hs
  refine ⟨b, o, rfl, ?_⟩
  have hc := h i hi'
  rw [Ls.nth_take (by omega)]
  show w.cell? ⟨b, o + i, none⟩ = some (.int k (zs.getD i 0))
  unfold Addr.add at hc
  split at hc
  · rename_i e; subst e; simpa using hc
  · simpa using hc

theorem lst_of_row {k : IntKind} {w : World} {g : Nat} {t : TypeId} {l : List Int} {f : Nat → Value} (h : w.rowIs g t l.length f) (hf : ∀ i, i < l.length → f i = .int k (Ls.nth l i)) : Lst k w (some ⟨g, 0, none⟩) l := by
  intro i hi
  refine ⟨g, 0, rfl, ?_⟩
  rw [Nat.zero_add, h.cell hi, hf i hi]

theorem lst_of_own {k : IntKind} {w : World} {base : Nat} {t : TypeId} {v : Value} {l : List Int} (h : w.ownsRow base t 1 v l.length (l.map (Value.int k))) :
    ∃ a cap, v = .slice a l.length cap ∧ Lst k w a l ∧ l.length ≤ cap ∧ cap ≤ maxLen := by
  have h' := h
  rcases h.2 with ⟨rfl, hn⟩ | ⟨g, cap, cur, rfl, hb, hg, h1, h2, h3, h4⟩
  · refine ⟨none, 0, by rw [hn], fun i hi => by omega, by omega, by omega⟩
  · refine ⟨_, cap, rfl, ?_, h1, h2⟩
    intro i hi
    refine ⟨g, 0, rfl, ?_⟩
    rw [Nat.zero_add, h'.cellAt i (by omega)]
    simp [Ls.nth, hi]

theorem lst_of_ownm {k : IntKind} {w : World} {base : Nat} {t : TypeId} {v : Value} {n : Nat} {l : List Int} (h : w.ownsRow base t 1 v n (l.map (Value.int k))) (hn : n = l.length) :
    ∃ a cap, v = .slice a n cap ∧ Lst k w a l := by
  subst hn
  obtain ⟨a, cap, h1, h2, _⟩ := lst_of_own h
  exact ⟨a, cap, h1, h2⟩

theorem Lst.none_nil {k : IntKind} {w : World} {l : List Int} (h : Lst k w none l) : l = [] := by
  cases l with
  | nil => rfl
  | cons x l =>
    obtain ⟨b, o, e, _⟩ := h 0 (by simp)
    cases e

/-- 'append(own, l...)', own a slice of numbers that the call itself made, l whatever list. -/
theorem wpList_append_lst {P : Program} {w : World} {ops : Array Oper} {rest : List Oper} {o : Oper} {a : Act} {Q : Exit → Act → World → Prop} (hgd : o.guard = none) (s x : Operand) (t : TypeId)
    (ho : o.op = .call { callee := .builtin .append, args := #[s, x], argTypes := #[t, t] })
    (base : Nat) (e : TypeId) (k : IntKind) (bytes : Nat) (ht : P.underlying t = some (.slice e)) (hinfo : (P.info? e).map (fun i => (i.zero, i.size, i.bytes)) = some (some (.int k 0), 1, bytes))
    (v : Value) (n : Nat) (xs : List Value) (hs : a.eval s = v) (hown : w.ownsRow base e 1 v n xs)
    (ao : Option Addr) (l : List Int) (c : Nat) (hx : a.eval x = .slice ao l.length c) (hL : Lst k w ao l) (hc : ao = none → c = 0)
    (h63 : n + l.length ≤ maxLen) (hbytes : (n + l.length) * bytes ≤ 140737488355328) (hbase : base ≤ w.heap.size)
    (h : ∀ v' w', w'.ownsRow base e 1 v' (n + l.length) (xs ++ l.map (Value.int k)) → w.grownBy w' v.ownBlock → wpList P ops Q rest (a.put o.dst v') w') : wpList P ops Q (o :: rest) a w := by
  obtain ⟨i, hi, hz0, hz1, hz2⟩ := info_parts hinfo
  cases ao with
  | none =>
    have e0 := hL.none_nil
    subst e0
    have hc0 := hc rfl
    subst hc0
    exact wpList_append_own_none hgd s x t ho base e i 1 ht hi v n xs hs hown hx (h v w (by simpa using hown) (World.grownBy.refl _ _))
  | some ad =>
    refine wpList_append_own w hgd s x t ho base e i (.int k 0) 1 bytes ht hi hz0 hz1 hz2 rfl (by omega) v n xs hs hown ad l.length c (l.map (Value.int k)) hx (by simp) ?_ (ints_oneCell k l) h63 hbytes hbase (fun v' w' h1 h2 _ => h v' w' h1 h2)
    intro j u hu
    have hj : j < l.length := by
      have := (List.getElem?_eq_some_iff.1 hu).1
      simpa using this
    obtain ⟨b, o1, e1, hcell⟩ := hL j hj
    simp at e1
    subst e1
    rw [Addr.add_lit, hcell]
    simpa [Ls.nth, hj] using hu

theorem Lst.to {k : IntKind} {w : World} {a : Option Addr} {l : List Int} (h : Lst k w a l) (t : Nat) : Lst k w a (l.take t) := fun i hi => by
  simp at hi
  obtain ⟨b, o, e, hc⟩ := h i (by omega)
  exact ⟨b, o, e, by rw [Ls.nth_take (by omega)]; exact hc⟩

theorem Lst.from {k : IntKind} {w : World} {a a' : Option Addr} {l : List Int} (h : Lst k w a l) (t cap : Nat) (hcap : l.length ≤ cap) (ha : ¬ cap = t → ∀ b o, a = some ⟨b, o, none⟩ → a' = some ⟨b, o + t, none⟩) : Lst k w a' (l.drop t) := fun i hi => by
  simp at hi
  obtain ⟨b, o, e, hc⟩ := h (t + i) (by omega)
  exact ⟨b, o + t, ha (by omega) b o e, by rw [Ls.nth_drop, Nat.add_assoc]; exact hc⟩

/-- The address of what is left behind a cut, as the walk writes it. -/
theorem addr_from {a : Option Addr} {cap t : Nat} : ¬ cap = t → ∀ b o, a = some ⟨b, o, none⟩ → (if cap = t then a else Option.map (fun x => x.add t) a) = some ⟨b, o + t, none⟩ := by
  intro h b o e
  subst e
  rw [if_neg h]
  simp only [Option.map_some, Addr.add]
  split
  · rename_i e; subst e; rfl
  · rfl
theorem Lst.left {k : IntKind} {w : World} {a : Option Addr} {l : List Int} {cap : Nat} (h : Lst k w a l) (hcap : l.length ≤ cap) (t : Nat) : Lst k w (if cap = t then a else Option.map (fun x => x.add t) a) (l.drop t) := h.from t cap hcap addr_from

/-- Out of the frame's own word of a slice of 32 bit numbers that came in. -/
theorem row_open {w : World} {a : Option Addr} {len cap : Nat} {zs : List Int}
    (h : (a = none ∧ len = 0 ∧ cap = 0 ∧ zs = []) ∨ ∃ x, a = some x ∧ len ≤ cap ∧ cap ≤ maxLen ∧ zs.length = cap ∧ (∀ i, i < zs.length → w.cell? (x.add i) = some (.int .i32 (zs.getD i 0))) ∧ ∀ n ∈ zs, (Lit.int .i32 n).wf = true) :
    ∃ l : List Int, l.length = len ∧ Lst .i32 w a l ∧ Ls.In32 l ∧ len ≤ maxLen ∧ len ≤ cap ∧ cap ≤ maxLen ∧ (a = none → cap = 0) := by
  rcases h with ⟨rfl, rfl, rfl, rfl⟩ | ⟨x, rfl, h1, h2, h3, h4, h5⟩
  · exact ⟨[], rfl, Lst.nil _ _ _, fun i => by rw [Ls.nth_nil]; omega, Nat.zero_le _, Nat.zero_le _, Nat.zero_le _, fun _ => rfl⟩
  · refine ⟨zs.take len, by simp; omega, lst_of_cells (by omega) h4, ?_, by omega, h1, h2, fun e => by cases e⟩
    apply Ls.In32.take
    apply Ls.in32_mk
    intro i hi
    exact bounds_i32 (h5 _ (Ls.nth_mem hi))

theorem lst_lit {k : IntKind} {w : World} {g : Nat} {t : TypeId} {fr : Nat × Nat} (l : List Int) (h : w.heap[g]? = some (.cells (l.map (Value.int k)).toArray t fr)) : Lst k w (some ⟨g, 0, none⟩) l := by
  intro i hi
  refine ⟨g, 0, rfl, ?_⟩
  rw [Nat.zero_add, cell_of_row w g i _ t fr h]
  simp [Ls.nth, hi]
theorem lst_new {k : IntKind} (w : World) {t : TypeId} (l : List Int) : Lst k (w.alloc (.cells (l.map (Value.int k)).toArray t)) (some ⟨w.heap.size, 0, none⟩) l := lst_lit l (heap_alloc_new w _)
theorem lst_new1 {k : IntKind} (w : World) {t : TypeId} {g : Nat} (l : List Int) (h : g = w.heap.size) : Lst k (w.alloc (.cells (l.map (Value.int k)).toArray t)) (some ⟨g, 0, none⟩) l := by subst h; exact lst_new w l

theorem Lst.cell0 {k : IntKind} {w : World} {g : Nat} {l : List Int} (h : Lst k w (some ⟨g, 0, none⟩) l) {i : Nat} (hi : i < l.length) : w.cell? ⟨g, i, none⟩ = some (.int k (Ls.nth l i)) := by
  obtain ⟨b, o, e, hc⟩ := h i hi
  simp at e
  obtain ⟨rfl, rfl⟩ := e
  simpa using hc
end Go.Proofs.Ytgjghnbhpnflfaa
