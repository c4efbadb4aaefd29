/- Contracts of the document's own tests of layer 5, and of lists held against one another. -/
import Derived.Test.YtpifemahakbegaaPkReads
namespace Go.Proofs.Ytpifemahakbegaa
set_option linter.unusedVariables false
open Go.RowKit

end Go.Proofs.Ytpifemahakbegaa
