/- Numbers put and read again: what the last laws of layer 6 ask for. -/
import Derived.Test.YteefkohogcghjaaSlAwake
namespace Go.Proofs.Yteefkohogcghjaa
set_option linter.unusedVariables false
open Go.RowKit

theorem Rdr.drawn {w : World} {g : Nat} {l : List Int} {sh : Bool} (h : Rdr w g l sh) : Rdr w.drew g l sh := h.keep ((Below.refl _ _).drew)
theorem Sl.nums_text {l : List Int} (h : Sl.Byt l) : Sl.nums (strOfNums l) = l := Sl.text_inj (Sl.nums_byt _) h (Sl.text_nums _)
/-- What '[]byte(s)' lays reads as the text's bytes. -/
theorem lst_bytesRow (w : World) {t : TypeId} {fr : Nat × Nat} {l : List Int} {s : ByteArray} (h : Sl.Byt l) (hs : strOfNums l = s) (cap : Nat) : Lst .u8 (w.alloc (.cells (bytesRow s cap) t fr)) (some ⟨w.heap.size, 0, none⟩) l := by
  have e : l = Sl.nums s := by rw [← hs, Sl.nums_text h]
  subst e
  intro i hi
  refine ⟨_, 0, rfl, ?_⟩
  rw [Nat.zero_add, cell_of_row _ _ i _ t fr (heap_alloc_new w _)]
  rw [Sl.nums_length] at hi
  have hi2 : i < s.data.size := hi
  unfold bytesRow
  rw [Array.getElem?_append_left (by simpa using hi2)]
  rw [Array.getElem?_map, Array.getElem?_eq_getElem hi2]
  have hn : Ls.nth (Sl.nums s) i = (s.data[i].toNat : Int) := by
    rw [Ls.nth_of_lt (by rw [Sl.nums_length]; exact hi)]
    simp [Sl.nums]
  rw [hn]
  rfl
theorem Sl.wid_cases (n : Int) (m k : Int) (hm : (if n < 0 then 0 else n) = m) (hk : (Sl.wid n : Int) = k) : (if 8 < m then 8 else m) = k := by
  unfold Sl.wid at hk
  by_cases c0 : n < 0
  · rw [if_pos c0] at hm hk
    rw [← hm, if_neg (by omega)]; exact hk
  · rw [if_neg c0] at hm hk
    by_cases c1 : 8 < n
    · rw [if_pos c1] at hk
      rw [if_pos (by omega)]; exact hk
    · rw [if_neg c1] at hk
      rw [if_neg (by omega)]; omega
theorem Sl.got_front (l m : List Int) : Sl.got (l ++ m) l.length = l := by rw [Sl.got_yes (by simp)]; simp
theorem Sl.rest_front (l m : List Int) : Sl.rest (l ++ m) l.length = m := by rw [Sl.rest_yes (by simp)]; simp
theorem Sl.got_all {l : List Int} {k : Nat} (h : l.length = k) : Sl.got l k = l := by rw [Sl.got_yes (by omega), List.take_of_length_le (by omega)]
theorem Sl.rest_all {l : List Int} {k : Nat} (h : l.length = k) : Sl.rest l k = [] := by rw [Sl.rest_yes (by omega), List.drop_of_length_le (by omega)]
theorem Sl.byt_app {l m : List Int} (h : Sl.Byt l) (k : Sl.Byt m) : Sl.Byt (l ++ m) := by
  intro i
  by_cases c : i < l.length
  · rw [Ls.nth_append_left c]; exact h i
  · have : Ls.nth (l ++ m) i = Ls.nth m (i - l.length) := by
      unfold Ls.nth
      simp [List.getElem?_append_right (show l.length ≤ i by omega)]
    rw [this]
    exact k _
theorem Sl.ask_nat (n : Nat) : Sl.ask (n : Int) = n := by unfold Sl.ask; rw [if_neg (by omega)]; omega
/-- A number with a sign, its four bytes and back. -/
theorem Sl.sgn_word {q : Int} {v : Nat} (h0 : -2147483648 ≤ q) (h1 : q ≤ 2147483647) (hv : q + 4294967296 = v) : Sl.sgn (Sl.num (Sl.be 4 v)) = q := by
  rw [Sl.num_be, Sl.four]
  by_cases c : v % 4294967296 < 2147483648
  · rw [Sl.sgn_lo c]; omega
  · rw [Sl.sgn_hi (by omega)]; omega
end Go.Proofs.Yteefkohogcghjaa
