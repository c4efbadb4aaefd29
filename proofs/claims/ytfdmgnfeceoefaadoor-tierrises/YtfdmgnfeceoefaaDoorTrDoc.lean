/- Contracts of layer 9: the document's reader, letter by letter. -/
import Derived.Test.YtfdmgnfeceoefaaDoorTrParse
namespace Go.Proofs.YtfdmgnfeceoefaaDoor
set_option linter.unusedVariables false
open Go.RowKit Go.Sort
open Tr

namespace Tr
theorem bl_take (s : ByteArray) (k : Nat) : bl (s.extract 0 k) = (bl s).take k := by
  simp [bl, ByteArray.data_extract]
theorem bl_drop (s : ByteArray) (k : Nat) : bl (s.extract k s.size) = (bl s).drop k := by
  unfold bl
  rw [ByteArray.data_extract, Array.toList_extract]
  simp only [List.extract_eq_take_drop]
  rw [List.take_of_length_le]
  rw [List.length_drop, Array.length_toList]
  exact Nat.le_refl _
/-- What stands behind a text's beginning p. -/
def Aft (p : List UInt8) (s t : ByteArray) (q : Bool) : Prop := (q = true → bl s = p ++ bl t) ∧ (q = false → t = s ∧ ∀ x, bl s ≠ p ++ x)
theorem Aft.yes {p : List UInt8} {s t : ByteArray} {q : Bool} (h : Aft p s t q) {x : List UInt8} (e : bl s = p ++ x) : q = true ∧ bl t = x := by
  cases q
  · exact absurd e ((h.2 rfl).2 x)
  · exact ⟨rfl, List.append_cancel_left ((h.1 rfl).symm.trans e)⟩
theorem Aft.size {p : List UInt8} {s t : ByteArray} {q : Bool} (h : Aft p s t q) : t.size ≤ s.size := by
  cases q
  · rw [(h.2 rfl).1]; exact Nat.le_refl _
  · rw [bl_size s, bl_size t, h.1 rfl]; simp
/-- A number at the beginning of s, behind it t. -/
def NumR (s : ByteArray) (n : Nat) (t : ByteArray) (q : Bool) : Prop :=
  (q = true → n < 2147483648 ∧ bl s = dec n ++ bl t) ∧ (q = false → n = 0 ∧ t = s) ∧ (∀ m x, m < 2147483648 → Sep x → bl s = dec m ++ x → q = true ∧ n = m ∧ bl t = x)
theorem NumR.size {s t : ByteArray} {n : Nat} {q : Bool} (h : NumR s n t q) : t.size ≤ s.size := by
  cases q
  · rw [(h.2.1 rfl).2]; exact Nat.le_refl _
  · rw [bl_size s, bl_size t, (h.1 rfl).2]; simp
/-- So far digits were read, and here it ended. -/
def Ended (l : List UInt8) (k : Nat) : Prop := k ≤ l.length ∧ k ≤ 10 ∧ (∀ c ∈ l.take k, Dig c) ∧ (k = l.length ∨ k = 10 ∨ ∃ c, l[k]? = some c ∧ ¬ Dig c)
theorem ended_is {l : List UInt8} {k m : Nat} {x : List UInt8} (h : Ended l k) (hm : m < 2147483648) (hx : Sep x) (e : l = dec m ++ x) : l.take k = dec m ∧ l.drop k = x := by
  obtain ⟨h1, h2, h3, h4⟩ := h
  have hl := dec_len hm
  have hk : k = (dec m).length := by
    rcases Nat.lt_trichotomy k (dec m).length with c | c | c
    · exfalso
      have hg : l[k]? = some ((dec m)[k]) := by rw [e, List.getElem?_append_left c]; simp
      rcases h4 with h4 | h4 | ⟨c', h5, h6⟩
      · rw [e] at h4; simp at h4; omega
      · omega
      · rw [hg] at h5; injection h5 with h5
        exact h6 (h5 ▸ dec_dig m _ (List.getElem_mem c))
    · exact c
    · exfalso
      cases x with
      | nil => rw [e] at h1; simp at h1; omega
      | cons d r =>
        have hd : d ∈ l.take k := by
          rw [e]
          have : (dec m ++ d :: r)[(dec m).length]? = some d := by rw [List.getElem?_append_right (Nat.le_refl _)]; simp
          apply List.mem_of_getElem? (i := (dec m).length)
          rw [List.getElem?_take, if_pos c]; exact this
        exact hx (h3 d hd)
  subst hk
  rw [e]
  simp
theorem take_next {l : List UInt8} {k : Nat} (h : k < l.length) : l.take (k + 1) = l.take k ++ [l[k]] := by
  rw [List.take_succ_eq_append_getElem h]
end Tr

set_option maxHeartbeats 800000 in
theorem after_any (s b : ByteArray) (p : List UInt8) (hp : bl b = p) (hs : s.size ≤ 1000000) (hb : b.size ≤ 100) (w : World) :
    Calls Tryd.prog 30 #[.string s, .string b] w fun e w' => ∃ t q, e = .returned (.tuple #[.string t, .bool q]) ∧ Hid (Aft p s t q) ∧ w = w' := by
  have HP : Hid (bl b = p) := hp
  clear hp
  by_cases h1 : s.size < b.size
  · have H1 : Hid (∀ x, bl s ≠ p ++ x) := fun x e => by rw [bl_size s, bl_size b, e, HP.out] at h1; simp at h1; omega
    go_enter Tryd.func30, Tryd.ntmps30
    go_wp2
    go_ret2
    exact ⟨s, false, rfl, ⟨(fun h => by cases h), fun _ => ⟨rfl, H1.out⟩⟩, rfl⟩
  · have h1' : b.size ≤ s.size := by omega
    obtain ⟨x, hx⟩ : ∃ x, s.extract 0 b.size = x := ⟨_, rfl⟩
    obtain ⟨t, ht⟩ : ∃ t, s.extract b.size s.size = t := ⟨_, rfl⟩
    have EX : Hid (bl x = (bl s).take b.size) := by show _ = _; rw [← hx]; exact bl_take s _
    have ET : Hid (bl t = (bl s).drop b.size) := by show _ = _; rw [← ht]; exact bl_drop s _
    clear h1
    by_cases h2 : x = b
    · subst h2
      have HR : Hid (Aft p s t true) := by
        refine ⟨fun _ => ?_, (fun h => by cases h)⟩
        rw [← HP.out, EX.out, ET.out]
        simp
      go_enter Tryd.func30, Tryd.ntmps30
      go_wp2
      go_ret2
      exact ⟨t, true, rfl, HR.out, rfl⟩
    · have h3 : (x.toList == b.toList) = false := text_ne h2
      have HR : Hid (Aft p s s false) := by
        refine ⟨(fun h => by cases h), fun _ => ⟨rfl, fun y e => h2 (bl_inj ?_)⟩⟩
        rw [EX.out, e, HP.out, bl_size, HP.out]
        simp
      clear h2
      go_enter Tryd.func30, Tryd.ntmps30
      go_wp2
      go_ret2
      exact ⟨s, false, rfl, HR.out, rfl⟩
end Go.Proofs.YtfdmgnfeceoefaaDoor
