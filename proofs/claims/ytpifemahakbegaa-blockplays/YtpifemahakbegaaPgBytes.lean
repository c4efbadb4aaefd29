/- Bytes of groups and pages: the document's answers (layer 8). -/
import Derived.Test.YtpifemahakbegaaPgNew
import Derived.Test.YtpifemahakbegaaPkRefs
import Derived.Test.YtpifemahakbegaaSlRefs
namespace Go.Proofs.Ytpifemahakbegaa
set_option linter.unusedVariables false
open Go.RowKit
attribute [local go_sem ↓] Go.wp_at_zero Go.wp_at_succ

theorem text_size (l : List Int) : (strOfNums l).size = l.length := strOfNums_size l

theorem Pg.be_one {x : Nat} (h : x < 256) : Sl.be 1 x = [(x : Int)] := by
  unfold Sl.be
  show [((x / 256 ^ (1 - 1 - 0) % 256 : Nat) : Int)] = _
  rw [show x / 256 ^ (1 - 1 - 0) % 256 = x by simp; omega]

end Go.Proofs.Ytpifemahakbegaa
