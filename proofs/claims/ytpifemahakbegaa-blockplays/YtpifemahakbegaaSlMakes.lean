/- Contracts of package seal, where new bytes are made. -/
import Derived.Test.YtpifemahakbegaaSlWorld
import Derived.Test.YtpifemahakbegaaSlCalls
namespace Go.Proofs.Ytpifemahakbegaa
set_option linter.unusedVariables false
open Go.RowKit

/-- The row of l and the lowest k bytes of v, t of them laid, from behind. -/
def Sl.laid (l : List Int) (k v t j : Nat) : Value := if j < l.length then .int .u8 (Ls.nth l j) else if j + t < l.length + k then .int .u8 0 else .int .u8 ((v / 256 ^ (l.length + k - 1 - j) % 256 : Nat) : Int)
theorem Sl.laid_whole (l : List Int) (k v j : Nat) (hj : j < l.length + k) : Sl.laid l k v k j = .int .u8 (Ls.nth (l ++ Sl.be k v) j) := by
  unfold Sl.laid
  by_cases c : j < l.length
  · rw [if_pos c, Ls.nth_append_left c]
  · rw [if_neg c, if_neg (by omega)]
    have : Ls.nth (l ++ Sl.be k v) j = Ls.nth (Sl.be k v) (j - l.length) := by
      unfold Ls.nth
      simp [List.getElem?_append_right (show l.length ≤ j by omega)]
    rw [this, Sl.nth_be (by omega), show k - 1 - (j - l.length) = l.length + k - 1 - j by omega]
theorem Sl.laid_first {l : List Int} {k v T : Nat} (hT : l.length + k = T) (j : Nat) (hj : j < T) : (if j < l.length then Value.int .u8 (Ls.nth l j) else Value.int .u8 0) = Sl.laid l k v 0 j := by
  unfold Sl.laid
  by_cases cj : j < l.length
  · rw [if_pos cj, if_pos cj]
  · rw [if_neg cj, if_neg cj, if_pos (by omega)]
theorem Sl.laid_step {l : List Int} {k v t n p : Nat} (ht : t < k) (hp : p = l.length + k - 1 - t) (hn : v / 256 ^ t = n) (j : Nat) :
    (if j = p then Value.int .u8 ((n : Int) % 256) else Sl.laid l k v t j) = Sl.laid l k v (t + 1) j := by
  unfold Sl.laid
  by_cases e : j = p
  · rw [e, if_pos rfl, if_neg (by omega), if_neg (by omega), hp, show l.length + k - 1 - (l.length + k - 1 - t) = t by omega, hn]
    rfl
  · rw [if_neg e]
    by_cases c : j < l.length
    · rw [if_pos c, if_pos c]
    · rw [if_neg c, if_neg c]
      by_cases d : j + t < l.length + k
      · rw [if_pos d, if_pos (by omega)]
      · rw [if_neg d, if_neg (by omega)]

end Go.Proofs.Ytpifemahakbegaa
