/- Contracts of the document's own tests of layer 5, and of lists held against one another. -/
import Derived.Test.YtgfaehhkbkfmhaaPkReads
namespace Go.Proofs.Ytgfaehhkbkfmhaa
set_option linter.unusedVariables false
open Go.RowKit

end Go.Proofs.Ytgfaehhkbkfmhaa
