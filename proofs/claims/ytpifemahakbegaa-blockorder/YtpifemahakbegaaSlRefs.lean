/- Contracts of the document's answers of layer 6, where texts are made. -/
import Derived.Test.YtpifemahakbegaaSlWorld
import Derived.Test.YtpifemahakbegaaSlCalls
namespace Go.Proofs.Ytpifemahakbegaa
set_option linter.unusedVariables false
open Go.RowKit

theorem ret_str {a b : ByteArray} (h : a = b) : Ending.returned (.string a) = .returned (.string b) := by rw [h]
theorem Sl.be_succ (k v : Nat) : Sl.be (k + 1) v = ((v / 256 ^ k % 256 : Nat) : Int) :: Sl.be k v := by
  apply Ls.ext_nth (by rw [Sl.be_length, List.length_cons, Sl.be_length])
  intro i hi
  rw [Sl.be_length] at hi
  rw [Sl.nth_be hi]
  cases i with
  | zero => simp [Ls.nth]
  | succ i =>
    show _ = Ls.nth (Sl.be k v) i
    rw [Sl.nth_be (by omega), show k + 1 - 1 - (i + 1) = k - 1 - i by omega]
theorem Sl.be_zero (v : Nat) : Sl.be 0 v = [] := rfl
theorem Sl.byt_one {x : Int} (h0 : 0 ≤ x) (h1 : x < 256) : Sl.Byt [x] := by
  apply Sl.byt_mk
  intro i hi
  simp at hi
  subst hi
  simp [Ls.nth]
  omega

theorem Sl.close_byt {l : List Int} (h : Sl.Byt l) : Sl.Byt (Sl.close l) := by
  apply Sl.byt_mk
  intro i hi
  unfold Sl.close
  by_cases c : i < l.length
  · rw [Ls.nth_append_left c]; exact h i
  · have : Ls.nth (l ++ Sl.be 4 (Sl.sum l)) i = Ls.nth (Sl.be 4 (Sl.sum l)) (i - l.length) := by
      unfold Ls.nth
      simp [List.getElem?_append_right (show l.length ≤ i by omega)]
    rw [this]
    exact Sl.be_byt _ _ _
end Go.Proofs.Ytpifemahakbegaa
