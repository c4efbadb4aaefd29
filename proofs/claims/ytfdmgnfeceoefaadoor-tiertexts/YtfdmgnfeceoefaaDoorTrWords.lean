/- Contracts of layer 9: a number behind a letter, a layer's word. -/
import Derived.Test.YtfdmgnfeceoefaaDoorTrCalls
namespace Go.Proofs.YtfdmgnfeceoefaaDoor
set_option linter.unusedVariables false
open Go.RowKit
open Tr

set_option maxHeartbeats 800000 in
theorem marked_any (s : ByteArray) (c : UInt8) (hs : s.size ≤ 1000000) (w : World) (hv : Vars w) :
    Calls Tryd.prog 35 #[.string s, .string ⟨#[c]⟩] w fun e w' => ∃ (n : Nat) (q : Bool), e = .returned (.tuple #[.int .i64 n, .bool q]) ∧ Hid (Mrk c s n q) ∧ Below w.heap.size w w' := by
  have HV : Hid (Vars w) := hv
  clear hv
  by_cases hp : ∃ r, bl s = c :: r
  · obtain ⟨r, hr⟩ := hp
    obtain ⟨t, et⟩ : ∃ t : ByteArray, bl t = r := ⟨⟨r.toArray⟩, rfl⟩
    have ER : Hid (bl s = c :: bl t) := by rw [et]; exact hr
    have h1 : (⟨(Lib.trimPrefix s.data.toList (⟨#[c]⟩ : ByteArray).data.toList).toArray⟩ : ByteArray) = t := by
      apply bl_inj
      show Lib.trimPrefix (bl s) [c] = bl t
      rw [ER.out]; simp [Lib.trimPrefix, Lib.hasPrefix, List.isPrefixOf]
    have h2 : Lib.hasPrefix s.data.toList (⟨#[c]⟩ : ByteArray).data.toList = true := by
      show Lib.hasPrefix (bl s) [c] = true
      rw [ER.out]; simp [Lib.hasPrefix, List.isPrefixOf]
    have CP : ∀ u : World, Calls Tryd.prog 39 #[.string s, .string ⟨#[c]⟩] u fun e w' => e = .returned (.tuple #[.string t, .bool true]) ∧ u = w' := fun u => by
      have := Tryd.strings_CutPrefix s ⟨#[c]⟩ u
      rw [h1, h2] at this
      exact this.mono fun _ _ ⟨h1, h2⟩ => ⟨h1, h2.symm⟩
    have CH : Hid (∀ u : World, Calls Tryd.prog 39 #[.string s, .string ⟨#[c]⟩] u fun e w' => e = .returned (.tuple #[.string t, .bool true]) ∧ u = w') := CP
    have ht : t.size ≤ 1000000 := by have e := ER.out; rw [bl_size s, e] at hs; rw [bl_size t]; simp at hs; omega
    clear h1 h2 CP et hr
    go_enter Tryd.func35, Tryd.ntmps35
    go_wp2_with (first
      | (go_at_call 39; refine (CH.out _).mono ?_; rintro e w' ⟨rfl, rfl⟩)
      | (go_at_call 40; refine (number_any t ht _ HV.out).mono ?_; rintro e w1 ⟨n, q, rfl, hn, hb⟩; have HN : Hid (Num t n q) := hn; have B1 : Hid (Below w.heap.size w w1) := hb; clear hn hb))
    go_ret2
    refine ⟨n, q, rfl, ⟨fun h => ?_, fun h m hm e => ?_⟩, B1.out⟩
    · obtain ⟨h1, h2⟩ := HN.out.1 h
      exact ⟨h1, by rw [ER.out, h2]⟩
    · exact (HN.out.2 h).2 m hm (List.cons.inj (ER.out.symm.trans e)).2
  · have h2 : Lib.hasPrefix s.data.toList (⟨#[c]⟩ : ByteArray).data.toList = false := by
      show Lib.hasPrefix (bl s) [c] = false
      cases e : bl s with
      | nil => rfl
      | cons d r =>
        have : c ≠ d := fun h => hp ⟨r, by rw [e, h]⟩
        simp [Lib.hasPrefix, List.isPrefixOf, this]
    have NO : Hid (∀ m, bl s ≠ c :: dec m) := fun m e => hp ⟨_, e⟩
    obtain ⟨t, ht⟩ : ∃ t, (⟨(Lib.trimPrefix s.data.toList (⟨#[c]⟩ : ByteArray).data.toList).toArray⟩ : ByteArray) = t := ⟨_, rfl⟩
    have CP : ∀ u : World, Calls Tryd.prog 39 #[.string s, .string ⟨#[c]⟩] u fun e w' => e = .returned (.tuple #[.string t, .bool false]) ∧ u = w' := fun u => by
      have := Tryd.strings_CutPrefix s ⟨#[c]⟩ u
      rw [ht, h2] at this
      exact this.mono fun _ _ ⟨h1, h2⟩ => ⟨h1, h2.symm⟩
    have CH : Hid (∀ u : World, Calls Tryd.prog 39 #[.string s, .string ⟨#[c]⟩] u fun e w' => e = .returned (.tuple #[.string t, .bool false]) ∧ u = w') := CP
    clear h2 CP hp ht
    go_enter Tryd.func35, Tryd.ntmps35
    go_wp2_with (go_at_call 39; refine (CH.out _).mono ?_; rintro e w' ⟨rfl, rfl⟩)
    go_ret2
    exact ⟨0, false, rfl, ⟨(fun h => by cases h), fun _ m _ => NO.out m⟩, Below.refl _ _⟩

theorem Tr.Word.mk {s a b : ByteArray} {q k1 k2 : Bool} {k v : Nat} (hc : Cut 47 s a b q) (h1 : Num a k k1) (h2 : Num b v k2) (hq : q = true) (hk : k1 = true) (hv : k2 = true) : Word s k v true := by
  obtain ⟨e1, e2⟩ := h1.1 hk
  obtain ⟨e3, e4⟩ := h2.1 hv
  exact ⟨fun _ => ⟨e1, e3, by rw [hc.2.1 hq, e2, e4]⟩, (fun h => by cases h)⟩
theorem Tr.Word.mk_no {s a b : ByteArray} {q k1 k2 : Bool} {k v : Nat} (hc : Cut 47 s a b q) (h1 : Num a k k1) (h2 : Num b v k2) (h : q = false ∨ k1 = false ∨ k2 = false) : Word s 0 0 false := by
  refine ⟨(fun h => by cases h), fun _ => ⟨rfl, rfl, fun m n hm hn e => ?_⟩⟩
  obtain ⟨e0, e1, e2⟩ := hc.yes (not_dig (by simp [Dig])) e
  rcases h with h | h | h
  · rw [h] at e0; cases e0
  · exact (h1.2 h).2 m hm e1
  · exact (h2.2 h).2 n hn e2

set_option maxHeartbeats 1600000 in
theorem layer_any (s : ByteArray) (hs : s.size ≤ 1000000) (w : World) (hv : Vars w) :
    Calls Tryd.prog 36 #[.string s] w fun e w' => ∃ (k v : Nat) (q : Bool), e = .returned (.tuple #[.agg #[.int .i64 k, .int .i64 v], .bool q]) ∧ Hid (Word s k v q) ∧ Below w.heap.size w w' := by
  have HV : Hid (Vars w) := hv
  clear hv
  go_enter Tryd.func36, Tryd.ntmps36
  go_wp2_with (go_at_call 34; refine (cut_any s 47 _ hs (HV.out.keep ((Below.refl _ _).alloc (Nat.le_refl _) _))).mono ?_; rintro e w1 ⟨a, b, q, rfl, hc, n1, rfl⟩; have HC : Hid (Cut 47 s a b q) := hc; clear hc)
  have hab := HC.out.size
  have ha : a.size ≤ 1000000 := by omega
  have hb : b.size ≤ 1000000 := by omega
  clear hab
  refine (number_any a ha _ ((HV.out.keep ((Below.refl _ _).alloc (Nat.le_refl _) _)).draws _)).mono ?_
  rintro e w1 ⟨k, q1, rfl, h1, b1⟩
  have HN1 : Hid (Num a k q1) := h1
  have B1 : Hid (Below w.heap.size w w1) := (((Below.refl _ _).alloc (Nat.le_refl _) _).trans (below_draws _ _ |>.mono (by simp))).trans (b1.mono (by simp))
  have z1 : w.heap.size < w1.heap.size := by have := b1.size; simp at this; omega
  have c0 : w1.cell? ⟨w.heap.size, 0, none⟩ = some (.int .i64 0) := by rw [b1.cell (p := ⟨w.heap.size, 0, none⟩) (by simp)]; simp
  have c1 : w1.cell? ⟨w.heap.size, 1, none⟩ = some (.int .i64 0) := by rw [b1.cell (p := ⟨w.heap.size, 1, none⟩) (by simp)]; simp
  have f0 : w1.frozen? ⟨w.heap.size, 0, none⟩ = false := by rw [b1.frozen (p := ⟨w.heap.size, 0, none⟩) (by simp)]; simp
  have f1 : w1.frozen? ⟨w.heap.size, 1, none⟩ = false := by rw [b1.frozen (p := ⟨w.heap.size, 1, none⟩) (by simp)]; simp
  clear h1 b1
  go_wp2_with fail
  refine (number_any b hb _ (HV.out.keep B1.out)).mono ?_
  rintro e w2 ⟨v, q2, rfl, h2, b2⟩
  have HN2 : Hid (Num b v q2) := h2
  have B2 : Hid (Below w.heap.size w w2) := below_then B1.out b2
  have z2 : w.heap.size < w2.heap.size := by have := b2.size; omega
  have c0 : w2.cell? ⟨w.heap.size, 0, none⟩ = some (.int .i64 0) := by rw [b2.cell (p := ⟨w.heap.size, 0, none⟩) z1]; exact c0
  have c1 : w2.cell? ⟨w.heap.size, 1, none⟩ = some (.int .i64 0) := by rw [b2.cell (p := ⟨w.heap.size, 1, none⟩) z1]; exact c1
  have f0 : w2.frozen? ⟨w.heap.size, 0, none⟩ = false := by rw [b2.frozen (p := ⟨w.heap.size, 0, none⟩) z1]; exact f0
  have f1 : w2.frozen? ⟨w.heap.size, 1, none⟩ = false := by rw [b2.frozen (p := ⟨w.heap.size, 1, none⟩) z1]; exact f1
  clear h2 b2
  cases q <;> cases q1 <;> cases q2
  all_goals
    go_wp2
    first
      | exact bodyPost_ret (v := .tuple #[.agg #[.int .i64 k, .int .i64 v], .bool true]) (by simp [results, Tryd.results36, go_sem, c0, c1]) rfl ⟨k, v, true, rfl, Tr.Word.mk HC.out HN1.out HN2.out rfl rfl rfl, ((B2.out).setCell (Nat.le_refl _) _).setCell (Nat.le_refl _) _⟩
      | exact bodyPost_ret (v := .tuple #[.agg #[.int .i64 (0 : Nat), .int .i64 (0 : Nat)], .bool false]) (by simp [results, Tryd.results36, go_sem, c0, c1]) rfl ⟨0, 0, false, rfl, Tr.Word.mk_no HC.out HN1.out HN2.out (by simp), ((B2.out).setCell (Nat.le_refl _) _).setCell (Nat.le_refl _) _⟩
      | (go_outline; sorry)
end Go.Proofs.YtfdmgnfeceoefaaDoor
