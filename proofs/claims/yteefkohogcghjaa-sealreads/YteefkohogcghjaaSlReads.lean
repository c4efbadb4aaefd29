/- A reader that is asked whatever: what the last law of layer 6 asks for. -/
import Derived.Test.YteefkohogcghjaaSlPuts
import Derived.Laws.OwnMore
import Derived.Deep.SlicePairs
import Derived.ChangeArms
namespace Go.Proofs.Yteefkohogcghjaa
set_option linter.unusedVariables false
open Go.RowKit

/-- The frame's word of a slice of pairs of numbers that came in. -/
def IsPairs (w : World) (a : Option Addr) (len cap : Nat) : Prop :=
  (a = none ∧ len = 0 ∧ cap = 0) ∨
  ∃ x, a = some x ∧ len ≤ cap ∧ cap ≤ maxLen ∧ ∀ i, i < len → ∃ k n : Int, w.cell? (x.add (i * 2)) = some (.int .i64 k) ∧ w.cell? (x.add (i * 2 + 1)) = some (.int .i64 n) ∧ (-9223372036854775808 ≤ n ∧ n ≤ 9223372036854775807)
/-- THE SLICE AT a READS AS n PAIRS, the i-th one K i and N i. -/
def Prs (w : World) (a : Option Addr) (n : Nat) (K N : Nat → Int) : Prop :=
  ∀ i, i < n → ∃ b o, a = some ⟨b, o, none⟩ ∧ w.cell? ⟨b, o + i * 2, none⟩ = some (.int .i64 (K i)) ∧ w.cell? ⟨b, o + i * 2 + 1, none⟩ = some (.int .i64 (N i))
theorem Prs.keep {w w' : World} {a : Option Addr} {n : Nat} {K N : Nat → Int} (h : Prs w a n K N) (hb : Below w.heap.size w w') : Prs w' a n K N := fun i hi => by
  obtain ⟨b, o, e, h1, h2⟩ := h i hi
  have hlt := World.block_lt_of_cell? w _ h1
  refine ⟨b, o, e, ?_, ?_⟩
  · rw [hb.cell (p := ⟨b, o + i * 2, none⟩) hlt]; exact h1
  · rw [hb.cell (p := ⟨b, o + i * 2 + 1, none⟩) hlt]; exact h2
theorem pairs_open {w : World} {a : Option Addr} {len cap : Nat} (h : IsPairs w a len cap) :
    ∃ K N : Nat → Int, Prs w a len K N ∧ (∀ i, i < len → -9223372036854775808 ≤ N i ∧ N i ≤ 9223372036854775807) ∧ len ≤ maxLen := by
  rcases h with ⟨rfl, rfl, rfl⟩ | ⟨x, rfl, h1, h2, h3⟩
  · exact ⟨fun _ => 0, fun _ => 0, fun i hi => by omega, fun i hi => by omega, Nat.zero_le _⟩
  · have each : ∀ i, i < len → ∃ q : Int × Int, w.cell? (x.add (i * 2)) = some (.int .i64 q.1) ∧ w.cell? (x.add (i * 2 + 1)) = some (.int .i64 q.2) ∧ (-9223372036854775808 ≤ q.2 ∧ q.2 ≤ 9223372036854775807) := by
      intro i hi
      obtain ⟨k, n, q⟩ := h3 i hi
      exact ⟨(k, n), q⟩
    obtain ⟨q, hq⟩ := Go.Deep.choose_lt each
    refine ⟨fun i => (q i).1, fun i => (q i).2, ?_, fun i hi => (hq i hi).2.2, by omega⟩
    intro i hi
    have h0 := (hq 0 (by omega)).1
    have hs : x.spot = none := by
      simp [Addr.add, World.cell?] at h0
      cases hx : x.spot
      · rfl
      · rw [hx] at h0; simp at h0; split at h0 <;> simp_all
    obtain ⟨b, o, sp⟩ := x
    simp at hs
    subst hs
    have c1 := (hq i hi).1
    have c2 := (hq i hi).2.1
    rw [Addr.add_lit] at c1 c2
    exact ⟨b, o, rfl, c1, by rw [Nat.add_assoc]; exact c2⟩

/-- What 'bytes.Clone' gives lies in a block of its own. -/
theorem clone_new (a : Option Addr) (m c : Nat) (l : List Int) (hm : m = l.length) (hl : l.length ≤ 1000) (w : World) (ha : Lst .u8 w a l) (hc : a = none → c = 0) :
    Calls Try.prog 27 #[.slice a m c] w fun e w' => ∃ a' c', e = .returned (.slice a' m c') ∧ Lst .u8 w' a' l ∧ m ≤ c' ∧ c' ≤ maxLen ∧ (a' = none → c' = 0) ∧ (∀ x, a' = some x → w.heap.size ≤ x.block ∧ x.block < w'.heap.size) ∧ Below w.heap.size w w' := by
  subst hm
  have HA : Hid (Lst .u8 w a l) := ha
  have HC : Hid (a = none → c = 0) := hc
  clear ha hc
  cases a with
  | none =>
    have e := HA.out.none_nil
    subst e
    have hq : (binOp .eql 22 (.slice none 0 c) (.slice none 0 0)).run Try.prog w = .ok (.bool true) w := slice_nil w _ _ none _ _ Try.underlying22
    go_enter Try.func27, Try.ntmps27
    go_wp2
    go_ret
    exact ⟨none, 0, rfl, Lst.nil _ _ _, Nat.zero_le _, fun _ => rfl, (fun x e => nomatch e), Below.refl _ _⟩
  | some a =>
    have hq : (binOp .eql 22 (.slice (some a) l.length c) (.slice none 0 0)).run Try.prog w = .ok (.bool false) w := slice_nil w _ _ (some a) _ _ Try.underlying22
    go_enter Try.func27, Try.ntmps27
    go_wp2_with (at_builtin; refine wpList_append_lst rfl (.tmp 5) (.tmp 6) 22 rfl w.heap.size 5 .u8 1 Try.underlying22 Try.infoU8 _ 0 [] (by rfl) (World.ownsRow_made w #[] 0 (Nat.le_refl _) (by decide) rfl) (some a) l c (by rfl) (HA.out.keep (box_over _ _)) HC.out (by unfold maxLen; omega) (by omega) (by simp) ?_; intro v1 u1 ho1 hg1; simp only [Nat.zero_add, List.nil_append] at ho1; have O1 : Hid (u1.ownsRow w.heap.size 5 1 v1 l.length (l.map (Value.int .u8))) := ho1; have B1 : Hid (Below w.heap.size w u1) := (box_over _ _).grown hg1 (by simp) (by intro k hk; cases hk; exact Nat.le_refl _); clear ho1 hg1)
    go_ret
    have O2 := O1.out
    obtain ⟨a', c', rfl, h1, h2, h3, h4, h5⟩ := lst_of_own2 O1.out rfl
    refine ⟨a', c', rfl, h1, h2, h3, h4, fun x e => ⟨?_, h5 x e⟩, B1.out⟩
    rcases O2.2 with ⟨e0, _⟩ | ⟨g, cap, cur, e0, hb, _⟩
    · rw [e] at e0; cases e0
    · rw [e] at e0; cases e0; exact hb

/-- A new reader hangs on new blocks alone. -/
theorem newReader_new (a : Option Addr) (m c : Nat) (l : List Int) (hm : m = l.length) (hl : l.length ≤ 1000) (w : World) (ha : Lst .u8 w a l) (hb : Sl.Byt l) (hc : a = none → c = 0) :
    Calls Try.prog 17 #[.slice a m c] w fun e w' => ∃ g, e = .returned (.pointer (some ⟨g, 0, none⟩)) ∧ w.heap.size ≤ g ∧ g < w'.heap.size ∧ (∀ u, (∀ j, w.heap.size ≤ j → u.heap[j]? = w'.heap[j]?) → Rdr u g l false) ∧ Below w.heap.size w w' := by
  have HM : Hid (m = l.length) := hm
  have HA : Hid (Lst .u8 w a l) := ha
  have HB : Hid (Sl.Byt l) := hb
  have HC : Hid (a = none → c = 0) := hc
  clear hm ha hb hc
  go_enter Try.func17, Try.ntmps17
  go_wp2_with (go_at_call 27; refine (clone_new a m c l HM.out hl _ HA.out HC.out).mono ?_; rintro e w' ⟨a', c', rfl, h1, h2, h3, h4, h5, h6⟩; have R1 : Hid (Lst .u8 w' a' l ∧ m ≤ c' ∧ c' ≤ maxLen ∧ (a' = none → c' = 0) ∧ (∀ x, a' = some x → w.heap.size ≤ x.block ∧ x.block < w'.heap.size) ∧ Below w.heap.size w w') := ⟨h1, h2, h3, h4, h5, h6⟩; clear h1 h2 h3 h4 h5 h6)
  go_ret
  obtain ⟨h1, h2, h3, h4, h5, h6⟩ := R1.out
  refine ⟨_, rfl, h6.size, by simp, ?_, h6.alloc h6.size _⟩
  intro u hu
  have hrow : (w'.alloc (.cells #[.slice a' m c', .bool false] 57)).rowIs w'.heap.size 57 2 (rdc a' l.length c' false) := by
    refine (World.rowIs_alloc _ _ _ _ ?_).congr (fun i hi => rfl)
    intro i hi
    rw [← HM.out]
    match i, hi with
    | 0, _ => rfl
    | 1, _ => rfl
  refine ⟨a', c', hrow.of_block (hu _ h6.size), ?_, HB.out, by rw [← HM.out]; exact h2, h3, h4, (fun x e => (h5 x e).2), hl⟩
  intro i hi
  obtain ⟨b, o, e, hcell⟩ := (h1.keep (box_over w' _)) i hi
  refine ⟨b, o, e, ?_⟩
  rw [← hcell]
  exact World.cell?_of_block (w := w'.alloc (.cells #[.slice a' m c', .bool false] 57)) (hu b (h5 _ e).1)

theorem Sl.num_nil : Sl.num [] = 0 := rfl
theorem Sl.byt_nil : Sl.Byt [] := fun i => by rw [Ls.nth_nil]; omega
/-- An own row stands as long as nothing old is turned. -/
theorem _root_.Go.World.ownsRow.below {w w' : World} {base : Nat} {t : TypeId} {a : Option Addr} {m c n : Nat} {xs : List Value} (h : w.ownsRow base t 1 (.slice a m c) n xs) (hb : Below w.heap.size w w') (hk : ∀ x, a = some x → x.block < w.heap.size) : w'.ownsRow base t 1 (.slice a m c) n xs := by
  refine ⟨h.1, ?_⟩
  rcases h.2 with h0 | ⟨g, cap, cur, e, h1, h2, h3⟩
  · exact Or.inl h0
  · refine Or.inr ⟨g, cap, cur, e, h1, ?_, h3⟩
    cases e
    rw [hb.block g (hk _ rfl)]
    exact h2
/-- One place of an own row of bytes: what it holds, and that it may be written. -/
theorem ow_step {w : World} {base : Nat} {t : TypeId} {a : Option Addr} {c n k : Nat} {zs : List Int} (h : w.ownsRow base t 1 (.slice a n c) n (zs.map (Value.int .u8))) (hk : k < n) :
    ∃ g y, a = some ⟨g, 0, none⟩ ∧ w.cell? ⟨g, k, none⟩ = some (.int .u8 y) ∧ w.frozen? ⟨g, k, none⟩ = false ∧ base ≤ g ∧
      ∀ y', (w.setCell ⟨g, k, none⟩ (.int .u8 y')).ownsRow base t 1 (.slice (some ⟨g, 0, none⟩) n c) n ((zs.set k y').map (Value.int .u8)) := by
  have hz : zs.length = n := by have := h.1; simpa using this
  have h' := h
  rcases h.2 with ⟨_, hn⟩ | ⟨g, cap, cur, e, hb, _⟩
  · omega
  · cases e
    refine ⟨g, Ls.nth zs k, rfl, ?_, h'.frozenAt k, hb, fun y' => ?_⟩
    · rw [h'.cellAt k (by omega)]
      simp [Ls.nth, show k < zs.length by omega]
    · rw [List.map_set]
      exact (h'.stored k (.int .u8 y')).1
end Go.Proofs.Yteefkohogcghjaa
