/- Layer 13: QbSlots, QbMore, QbFork, CaWorld, CaDoc, CaTwo. -/
import Derived.Test.YtnchnlgnnlgjcaaGreatCn13
import Derived.Deep.Upon
import Derived.Laws.IdiomCopy
import Derived.Test.YtnchnlgnnlgjcaaGreatCn04
import Derived.WalkKit
import Derived.ProofKit
import Derived.OpenShut
import Derived.Deep.QuietTactic
import Derived.BigQuiet
import Derived.Outline
import Derived.Deep.AppendLies
namespace Go.Proofs.YtnchnlgnnlgjcaaGreat
set_option linter.unusedVariables false
set_option linter.unusedSimpArgs false
open Go.RowKit
set_option maxRecDepth 100000 in
set_option maxHeartbeats 1600000 in
theorem concat_any (v : Value) (m : Nat) (L : Nat → List Int) (Q : Nat → Prop) (w : World) (h : Rws w v m L Q) (hm : m ≤ 100000) (hl : Bk.len L m ≤ 100000) :
    Calls Tryz.prog 107 #[v] w fun e w' => ∃ u, e = .returned u ∧ w'.ownsRow w.heap.size 3 1 u (Bk.len L m) ((Bk.flat L m).map (Value.int .i64)) ∧ Below w.heap.size w w' := by
  obtain ⟨a, c, rfl⟩ := h.slice
  have HR : Hid (Rws w (.slice a m c) m L Q) := h
  have HT : Hid (Bk.len L m ≤ 100000) := hl
  clear h hl
  go_enter Tryz.func107, Tryz.ntmps107
  go_wp2
  go_loop [3, 11] (fun s i => ∃ k : Nat, k ≤ m ∧ i = .int .i64 k ∧ s = .int .i64 (Bk.len L k)) (fun _ i => m - (intOf i).toNat)
  case atStart => exact ⟨0, Nat.zero_le _, rfl, rfl⟩
  case round =>
    obtain ⟨k, hk, rfl, rfl⟩ := hrel
    have t1 := Bk.len_mono L hk
    have t2 := HT.out
    obtain ⟨sk, esk⟩ : ∃ s, Bk.len L k = s := ⟨_, rfl⟩
    have ESK : Hid (Bk.len L k = sk) := esk
    rw [esk] at t1 ⊢
    by_cases hlt : k < m
    · obtain ⟨d, c', A, C, e, hc, _⟩ := HR.out.cell hlt
      cases e
      have t3 := Bk.len_mono L (show k + 1 ≤ m by omega)
      rw [Bk.len_succ, esk] at t3
      obtain ⟨nk, enk⟩ : ∃ s, (L k).length = s := ⟨_, rfl⟩
      have ENK : Hid ((L k).length = nk) := enk
      rw [enk] at t3 hc
      have z : ¬ ((sk : Int) + nk < 0) := by omega
      clear esk enk
      go_wp2
      go_round
      case rel => exact ⟨k + 1, by omega, by go_num, by rw [Bk.len_succ, ESK.out, ENK.out]; go_num⟩
      case measure => simp [intOf]; omega
    · have ek : k = m := by omega
      subst ek
      clear esk
      go_wp2_with (go_at_call 130; refine (grow_nil sk (by omega) _).mono ?_; rintro e w' ⟨v1, rfl, ho, hb⟩; have HO : Hid (w'.ownsRow w.heap.size 3 1 v1 0 []) := ho; have HB : Hid (Below w.heap.size w w') := hb; clear ho hb)
      go_loopw [6, 27] (fun v i wr => ∃ j : Nat, j ≤ k ∧ i = .int .i64 j ∧ wr.ownsRow w.heap.size 3 1 v (Bk.len L j) ((Bk.flat L j).map (Value.int .i64)) ∧ Below w.heap.size w wr) (fun _ i _ => k - (intOf i).toNat)
      case atStart => exact ⟨0, Nat.zero_le _, rfl, HO.out, HB.out⟩
      case round =>
        obtain ⟨j, hj, rfl, ho, hb⟩ := hrel
        have t3 := Bk.len_mono L hj
        have HO1 : Hid (wr.ownsRow w.heap.size 3 1 u6 (Bk.len L j) ((Bk.flat L j).map (Value.int .i64))) := ho
        have HB1 : Hid (Below w.heap.size w wr) := hb
        have hsz := hb.size
        clear ho hb
        by_cases hlt : j < k
        · obtain ⟨d, c', A, C, e, hc, ho, hA, hn⟩ := (HR.out.keep HB1.out).cell hlt
          cases e
          have HA : Hid (Lst .i64 wr A (L j)) := hA
          have HN : Hid (A = none → C = 0) := hn
          have t4 := Bk.len_mono L (show j + 1 ≤ k by omega)
          rw [Bk.len_succ] at t4
          rw [ESK.out] at t4
          clear hA hn ho
          go_wp2_with (at_builtin; refine wpList_append_lst rfl _ _ 70 rfl w.heap.size 3 .i64 8 Tryz.underlying70 Tryz.infoIntG _ (Bk.len L j) _ (by rfl) HO1.out A (L j) C (by rfl) HA.out HN.out (by unfold maxLen; omega) (by omega) hsz ?_; intro v2 u2 ho2 hg2; have O2 : Hid (u2.ownsRow w.heap.size 3 1 v2 (Bk.len L j + (L j).length) ((Bk.flat L j).map (Value.int .i64) ++ (L j).map (Value.int .i64))) := ho2; have B2 : Hid (Below w.heap.size w u2) := HB1.out.grown hg2 hsz (fun q hq => (HO1.out.lt q hq).1); clear ho2 hg2)
          go_roundw
          case rel => exact ⟨j + 1, by omega, by go_num, by have := O2.out; rw [← Bk.len_succ, ← List.map_append] at this; exact this, B2.out⟩
          case measure => simp [intOf]; omega
        · have ej : j = k := by omega
          subst ej
          clear t3
          go_wp2
          go_ret
          exact ⟨_, rfl, HO1.out, HB1.out⟩
theorem slots_any' (g T m N : Nat) (L : Nat → List Int) (Q : Nat → Prop) (w : World) (h : Tab w g T m L Q) (hm : m ≤ 100000) (hN : Bk.len L m = N) (hl : N ≤ 100000) :
    Calls Tryz.prog 72 #[.pointer (some ⟨T, 0, none⟩)] w fun e w' => ∃ a c, e = .returned (.slice a N c) ∧ w'.ownsRow w.heap.size 3 1 (.slice a N c) N ((Bk.flat L m).map (Value.int .i64)) ∧ Lst .i64 w' a (Bk.flat L m) ∧ Below w.heap.size w w' := by
  subst hN
  obtain ⟨r, c0, c1, hrw⟩ := h.cells
  have HR : Hid (Rws w (.slice (some ⟨r, 0, none⟩) m m) m L Q) := hrw
  have HL : Hid (Bk.len L m ≤ 100000) := hl
  clear h hrw hl c0
  go_enter Tryz.func72, Tryz.ntmps72
  go_wp2_with (go_at_call 107; refine (concat_any _ m L Q _ HR.out hm HL.out).mono ?_; rintro e w' ⟨u, rfl, ho, hb⟩; have HO : Hid (w'.ownsRow w.heap.size 3 1 u (Bk.len L m) ((Bk.flat L m).map (Value.int .i64))) := ho; have HB : Hid (Below w.heap.size w w') := hb; clear ho hb)
  obtain ⟨a, c, e, hl⟩ := lst_of_ownm HO.out rfl
  cases e
  have HA : Hid (Lst .i64 w' a (Bk.flat L m)) := hl
  clear hl
  go_wp2
  go_ret
  exact ⟨a, c, rfl, HO.out, HA.out, HB.out⟩
end Go.Proofs.YtnchnlgnnlgjcaaGreat
namespace Go.Proofs.YtnchnlgnnlgjcaaGreat
set_option linter.unusedVariables false
open Go.RowKit
theorem Bk.nth_take {R l : List Int} {d : Int} {n k : Nat} (j : Nat) (hR : R.length = n) (hx : ∀ x, x ∈ l → 0 ≤ x ∧ x < n) (hk : k < n) : Ls.nth (Bk.bump R d (l.take j)) k = Ls.nth R k + d * Bk.occ k (l.take j) :=
  Bk.nth_bump d _ R (fun x hxm => by rw [hR]; exact hx x (List.mem_of_mem_take hxm)) k (by rw [hR]; exact hk)
theorem Rws.frozen {w : World} {d m c : Nat} {L : Nat → List Int} {Q : Nat → Prop} (h : Rws w (.slice (some ⟨d, 0, none⟩) m c) m L Q) (j : Nat) : w.frozen? ⟨d, j, none⟩ = false := by
  rcases h with ⟨h, _⟩ | ⟨d', c', F, e, _, hr, _⟩
  · cases h
  · cases e; exact hr.frozen _
theorem below_cells {B b : Nat} (hb : B ≤ b) : ∀ (vs : List Value) (o : Nat) (w0 w : World), Below B w0 w → Below B w0 (w.setCells b o vs) := by
  intro vs
  induction vs with
  | nil => exact fun o w0 w h => h
  | cons v vs ih => exact fun o w0 w h => ih (o + 1) w0 _ (h.setCell (p := ⟨b, o, none⟩) hb v)
theorem block_cells {b : Nat} {j : Nat} (hj : ¬ j = b) : ∀ (vs : List Value) (o : Nat) (w : World), (w.setCells b o vs).heap[j]? = w.heap[j]? := by
  intro vs
  induction vs with
  | nil => exact fun o w => rfl
  | cons v vs ih => exact fun o w => (ih (o + 1) _).trans (Below.heap_setCell _ _ _ _ (show j ≠ b from hj))
theorem ButQ.cells {g b : Nat} {Q : Nat → Prop} {w v : World} (h : ButQ g b Q w v) {d : Nat} (hd : Q d) (vs : List Value) (o : Nat) : ButQ g b Q w (v.setCells d o vs) := by
  have b0 := below_cells (B := 0) (b := d) (Nat.zero_le _) vs o v v (Below.refl _ _)
  exact ⟨b0.os.trans h.1, b0.tape.trans h.2.1, b0.output.trans h.2.2.1, Nat.le_trans h.2.2.2.1 b0.size, fun j h0 h1 h2 h3 => by rw [block_cells (fun e => by subst e; exact h3 hd), h.2.2.2.2 j h0 h1 h2 h3]⟩
end Go.Proofs.YtnchnlgnnlgjcaaGreat
namespace Go.Proofs.YtnchnlgnnlgjcaaGreat
set_option linter.unusedVariables false
open Go.RowKit
/-- What an element's cells say (c j is its j-th cell), all that it points at lying in blocks of kind Q. -/
abbrev El (α : Type) := (Nat → Prop) → World → (Nat → Option Value) → α → Prop
/-- THE SLICE AT a READS AS l: each element has s cells, which say E; all blocks are of kind Q. -/
def SlQ {α : Type} (Q : Nat → Prop) (s : Nat) (E : El α) (w : World) (a : Option Addr) (l : List α) : Prop :=
  ∀ i (h : i < l.length), ∃ b o, a = some ⟨b, o, none⟩ ∧ b < w.heap.size ∧ Q b ∧ E Q w (fun j => w.cell? ⟨b, o + (i * s + j), none⟩) l[i]
def Carries {α : Type} (s : Nat) (E : El α) : Prop :=
  ∀ (Q Q' : Nat → Prop) (w w' : World) (c c' : Nat → Option Value) (x : α), (∀ q, q < w.heap.size → Q q → Q' q ∧ w'.heap[q]? = w.heap[q]?) → w.heap.size ≤ w'.heap.size → (∀ j, j < s → ∀ v, c j = some v → c' j = some v) → E Q w c x → E Q' w' c' x
theorem SlQ.carry {α : Type} {E : El α} {s : Nat} (hE : Carries s E) {Q Q' : Nat → Prop} {w w' : World} {a : Option Addr} {l : List α} (h : SlQ Q s E w a l)
    (hk : ∀ q, q < w.heap.size → Q q → Q' q ∧ w'.heap[q]? = w.heap[q]?) (hs : w.heap.size ≤ w'.heap.size) : SlQ Q' s E w' a l := fun i hi => by
  obtain ⟨b, o, e, hb, hq, he⟩ := h i hi
  obtain ⟨h1, h2⟩ := hk b hb hq
  exact ⟨b, o, e, by omega, h1, hE Q Q' w w' _ _ _ hk hs (fun j _ v hv => by rw [World.cell?_of_block h2]; exact hv) he⟩
theorem SlQ.keep {α : Type} {E : El α} {s : Nat} (hE : Carries s E) {Q : Nat → Prop} {w w' : World} {a : Option Addr} {l : List α} (h : SlQ Q s E w a l) (hb : Below w.heap.size w w') : SlQ Q s E w' a l :=
  h.carry hE (fun q h1 h2 => ⟨h2, hb.block q h1⟩) hb.size
theorem SlQ.nil {α : Type} (Q : Nat → Prop) (s : Nat) (E : El α) (w : World) (a : Option Addr) : SlQ Q s E w a [] := fun i hi => by simp at hi
/-- A piece of a slice. -/
theorem SlQ.take {α : Type} {E : El α} {Q : Nat → Prop} {s : Nat} {w : World} {a : Option Addr} {l : List α} (h : SlQ Q s E w a l) (n : Nat) : SlQ Q s E w a (l.take n) := fun i hi => by
  have h1 : i < l.length := by rw [List.length_take] at hi; omega
  rw [List.getElem_take]
  exact h i h1
theorem SlQ.get {α : Type} {E : El α} {Q : Nat → Prop} {s : Nat} {w : World} {a : Option Addr} {l : List α} (h : SlQ Q s E w a l) {i : Nat} (hi : i < l.length) :
    ∃ b o, a = some ⟨b, o, none⟩ ∧ b < w.heap.size ∧ Q b ∧ ∀ j (hj : j < l.length), E Q w (fun k => w.cell? ⟨b, o + (j * s + k), none⟩) l[j] := by
  obtain ⟨b, o, rfl, h1, h2, _⟩ := h i hi
  refine ⟨b, o, rfl, h1, h2, fun j hj => ?_⟩
  obtain ⟨b', o', e, _, _, he⟩ := h j hj
  simp at e
  obtain ⟨rfl, rfl⟩ := e
  exact he
/-- A number. -/
def eNum (k : IntKind) : El Int := fun Q w c x => c 0 = some (.int k x)
/-- A slice: of elements of s cells, which say E. -/
def eSl {α : Type} (s : Nat) (E : El α) : El (List α) := fun Q w c l => ∃ A C, c 0 = some (.slice A l.length C) ∧ l.length ≤ C ∧ l.length ≤ maxLen ∧ (A = none → C = 0) ∧ SlQ Q s E w A l
abbrev eRow : El (List Int) := eSl 1 (eNum .i32)
abbrev eTbl : El (List (List Int)) := eSl 1 eRow
/-- A token: keys and values. -/
abbrev Tok := List (List Int) × List (List Int)
def eTok : El Tok := fun Q w c x => eTbl Q w c x.1 ∧ eTbl Q w (fun j => c (j + 1)) x.2
theorem carry_num (k : IntKind) : Carries 1 (eNum k) := fun Q Q' w w' c c' x _ _ hc h => hc 0 (by decide) _ h
theorem carry_sl {α : Type} {s : Nat} {E : El α} (hE : Carries s E) : Carries 1 (eSl s E) := fun Q Q' w w' c c' l hk hs hc ⟨A, C, h1, h2, h3, h4, h5⟩ => ⟨A, C, hc 0 (by decide) _ h1, h2, h3, h4, h5.carry hE hk hs⟩
theorem carry_row : Carries 1 eRow := carry_sl (carry_num _)
/-- Each of an element's cells is there, and is one. -/
def Full {α : Type} (s : Nat) (E : El α) : Prop := ∀ (Q : Nat → Prop) (w : World) (c : Nat → Option Value) (x : α), E Q w c x → ∀ j, j < s → ∃ v, c j = some v ∧ v.oneCell' = true
theorem full_sl {α : Type} (s : Nat) (E : El α) : Full 1 (eSl s E) := fun Q w c x ⟨A, C, h, _⟩ j hj => by
  obtain rfl : j = 0 := by omega
  exact ⟨_, h, rfl⟩
/-- A row of numbers, as the elder texts have it. -/
theorem SlQ.lst {k : IntKind} {Q : Nat → Prop} {w : World} {a : Option Addr} {l : List Int} (h : SlQ Q 1 (eNum k) w a l) : Lst k w a l := fun i hi => by
  obtain ⟨b, o, e, _, _, he⟩ := h i hi
  have he : w.cell? ⟨b, o + (i * 1 + 0), none⟩ = some (.int k l[i]) := he
  rw [show o + (i * 1 + 0) = o + i by omega] at he
  refine ⟨b, o, e, ?_⟩
  rw [he]
  simp [Ls.nth, hi]
/-- A table, as the elder texts have it. -/
theorem SlQ.tbl {Q : Nat → Prop} {w : World} {a : Option Addr} {ls : List (List Int)} (h : SlQ Q 1 eRow w a ls) : Tbl w a ls := fun i hi => by
  obtain ⟨b, o, e, _, _, A, C, h1, h2, h3, h4, h5⟩ := h i hi
  have h1 : w.cell? ⟨b, o + (i * 1 + 0), none⟩ = some (.slice A (ls[i]).length C) := h1
  rw [show o + (i * 1 + 0) = o + i by omega] at h1
  have er : Tb.row ls i = ls[i] := by simp [Tb.row, hi]
  refine ⟨b, o, A, C, e, ?_, ?_, ?_⟩
  · rw [er]; exact h1
  · rw [er]; exact h5.lst
  · rw [er]; exact h3
/-- A slice that the call itself made. -/
theorem slq_of_own {α : Type} {E : El α} {Q : Nat → Prop} {s : Nat} {w : World} {base : Nat} {t : TypeId} {v : Value} {n : Nat} {xs : List Value} {l : List α} (h : w.ownsRow base t s v n xs) (hn : n = l.length)
    (hQ : ∀ q, v.ownBlock = some q → Q q) (hE : ∀ i (hi : i < l.length) (c : Nat → Option Value), (∀ j, j < s → c j = xs[i * s + j]?) → E Q w c l[i]) :
    ∃ a cap, v = .slice a n cap ∧ SlQ Q s E w a l ∧ n ≤ cap ∧ cap ≤ maxLen ∧ (a = none → cap = 0) := by
  rcases h.2 with ⟨e, h0⟩ | ⟨g, cap, cur, e, hb, hg, h1, h2, h3, h4⟩
  · subst e
    exact ⟨none, 0, by rw [h0], (fun i hi => by omega), by omega, Nat.zero_le _, fun _ => rfl⟩
  · subst e
    have hlt : g < w.heap.size := (Array.getElem?_eq_some_iff.1 hg).1
    refine ⟨some ⟨g, 0, none⟩, cap, rfl, fun i hi => ⟨g, 0, rfl, hlt, hQ g rfl, hE i hi _ fun j hj => ?_⟩, h1, h2, (fun e => nomatch e)⟩
    have hlt2 : i * s + j < n * s := by
      have : (i + 1) * s ≤ n * s := Nat.mul_le_mul_right s (by omega)
      rw [Nat.add_mul, Nat.one_mul] at this
      omega
    rw [Nat.zero_add, cell_of_row w g _ cur t (0, 0) hg, ← h4, List.getElem?_take, if_pos hlt2]
    simp
end Go.Proofs.YtnchnlgnnlgjcaaGreat
namespace Go.Proofs.YtnchnlgnnlgjcaaGreat
set_option linter.unusedVariables false
open Go.RowKit
namespace Ca
def nt {α : Type} (l : List (List α)) (i : Nat) : List α := l.getD i []
theorem nt_at {α : Type} {l : List (List α)} {i : Nat} (h : i < l.length) : nt l i = l[i] := by simp [nt, h]
/-- The least length among the first ones. -/
def low {α : Type} (M : List (List α)) : Nat → Nat
  | 0 => (nt M 0).length
  | k + 1 => min (low M k) (nt M k).length
theorem low_le {α : Type} (M : List (List α)) (k : Nat) : low M k ≤ (nt M 0).length ∧ ∀ j, j < k → low M k ≤ (nt M j).length := by
  induction k with
  | zero => exact ⟨Nat.le_refl _, fun j h => by omega⟩
  | succ k ih =>
    refine ⟨by unfold low; omega, fun j hj => ?_⟩
    unfold low
    rcases Nat.lt_or_ge j k with h | h
    · have := ih.2 j h; omega
    · rw [show j = k by omega]; omega
end Ca
/-- The cells of a slice of slices. -/
theorem SlQ.cells {α : Type} {s : Nat} {E : El α} {Q : Nat → Prop} {w : World} {a : Option Addr} {l : List (List α)} (h : SlQ Q 1 (eSl s E) w a l) (h0 : 0 < l.length) :
    ∃ b o, a = some ⟨b, o, none⟩ ∧ Q b ∧ b < w.heap.size ∧ ∀ j, j < l.length → ∃ A C, w.cell? ⟨b, o + j, none⟩ = some (.slice A (Ca.nt l j).length C) ∧ (Ca.nt l j).length ≤ C ∧ (Ca.nt l j).length ≤ maxLen ∧ (A = none → C = 0) ∧ SlQ Q s E w A (Ca.nt l j) := by
  obtain ⟨b, o, e, hb, hq, he⟩ := h.get h0
  refine ⟨b, o, e, hq, hb, fun j hj => ?_⟩
  obtain ⟨A, C, h1, h2, h3, h4, h5⟩ := he j hj
  have h1 : w.cell? ⟨b, o + (j * 1 + 0), none⟩ = some (.slice A (l[j]).length C) := h1
  rw [show o + (j * 1 + 0) = o + j by omega] at h1
  rw [Ca.nt_at hj]
  exact ⟨A, C, h1, h2, h3, h4, h5⟩
end Go.Proofs.YtnchnlgnnlgjcaaGreat
namespace Go.Proofs.YtnchnlgnnlgjcaaGreat
set_option linter.unusedVariables false
open Go.RowKit
/-- HAVE LISTS THE SHAPE? -/
def Ca.fit (H D : Nat) (ls : List (List Int)) : Bool := decide (ls.length = H) && ls.all fun l => decide (l.length = D)
theorem Ca.fit_iff {H D : Nat} {ls : List (List Int)} : Ca.fit H D ls = true ↔ ls.length = H ∧ ∀ k, k < ls.length → (Tb.row ls k).length = D := by
  unfold Ca.fit
  simp only [Bool.and_eq_true, decide_eq_true_eq, List.all_eq_true]
  refine and_congr_right fun _ => ⟨fun h k hk => ?_, fun h x hx => ?_⟩
  · have e : Tb.row ls k = ls[k] := by simp [Tb.row, hk]
    rw [e]; exact h _ (List.getElem_mem hk)
  · obtain ⟨k, hk, rfl⟩ := List.getElem_of_mem hx
    have e : Tb.row ls k = ls[k] := by simp [Tb.row, hk]
    rw [← e]; exact h k hk
/-- 'p.shaped(l)': the play at P has heads H and dim D. -/
theorem shapedP_any (P : Nat) (H D : Nat) (a : Option Addr) (c : Nat) (ls : List (List Int)) (w : World) (c1 : w.cell? ⟨P, 1, none⟩ = some (.int .i64 (H : Int))) (c2 : w.cell? ⟨P, 2, none⟩ = some (.int .i64 (D : Int)))
    (ha : Tbl w a ls) (hl : ls.length ≤ 100000) (hH : H ≤ 4) (hD : D ≤ 16) :
    Calls Tryz.prog 32 #[.pointer (some ⟨P, 0, none⟩), .slice a ls.length c] w fun e w' => e = .returned (.bool (Ca.fit H D ls)) ∧ w' = w := by
  have HA : Hid (Tbl w a ls) := ha
  clear ha
  go_enter Tryz.func32, Tryz.ntmps32
  go_wp2
  go_loop [9] (fun i => ∃ k : Nat, k ≤ ls.length ∧ i = .int .i64 k ∧ Hid (∀ j, j < k → (Tb.row ls j).length = D)) (fun i => ls.length - (intOf i).toNat)
  case atStart => exact ⟨0, Nat.zero_le _, rfl, fun j h => by omega⟩
  case round =>
    obtain ⟨k, hk, rfl, HJ⟩ := hrel
    by_cases hlt : k < ls.length
    · obtain ⟨b1, o1, rfl, hc1⟩ := HA.out.get hlt
      obtain ⟨A1, C1, hck1, -, hm⟩ := hc1 k hlt
      unfold maxLen at hm
      clear hc1
      by_cases hx : (Tb.row ls k).length = D
      · have HX : Hid ((Tb.row ls k).length = D) := hx
        have hb : (((((Tb.row ls k).length : Nat) : Int)) == (D : Int)) = true := by simp [hx]
        clear hx
        go_wp2
        go_round
        case rel => exact ⟨k + 1, by omega, by go_num, fun j hj => by rcases Nat.lt_or_ge j k with q | q; exact HJ.out j q; rw [show j = k by omega]; exact HX.out⟩
        case measure => simp [intOf]; omega
      · have HX : Hid (¬ (Tb.row ls k).length = D) := hx
        have hb : (((((Tb.row ls k).length : Nat) : Int)) == (D : Int)) = false := by simp; omega
        clear hx
        go_wp2
        go_ret
        refine ⟨ret_bool ?_, rfl⟩
        symm
        rw [Bool.eq_false_iff]
        intro e
        exact HX.out ((Ca.fit_iff.1 e).2 k hlt)
    · have ek : k = ls.length := by omega
      subst ek
      by_cases hx : ls.length = H
      · have hb : ((((ls.length : Nat) : Int)) == (H : Int)) = true := by simp [hx]
        have HX : Hid (ls.length = H) := hx
        clear hx
        go_wp2
        go_ret
        exact ⟨ret_bool (Ca.fit_iff.2 ⟨HX.out, HJ.out⟩).symm, rfl⟩
      · have hb : ((((ls.length : Nat) : Int)) == (H : Int)) = false := by simp; omega
        have HX : Hid (¬ ls.length = H) := hx
        clear hx
        go_wp2
        go_ret
        refine ⟨ret_bool ?_, rfl⟩
        symm
        rw [Bool.eq_false_iff]
        intro e
        exact HX.out (Ca.fit_iff.1 e).1
end Go.Proofs.YtnchnlgnnlgjcaaGreat
