/- Contracts of the document's own answers of layer 7. -/
import Derived.Test.YtpifemahakbegaaGpTests
namespace Go.Proofs.Ytpifemahakbegaa
set_option linter.unusedVariables false
open Go.RowKit
attribute [local go_sem ↓] Go.wp_at_zero Go.wp_at_succ

end Go.Proofs.Ytpifemahakbegaa
