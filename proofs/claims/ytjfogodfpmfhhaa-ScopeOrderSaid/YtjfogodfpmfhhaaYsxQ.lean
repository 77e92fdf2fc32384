/- The document's SameExpr: one expression in two places is one. -/
import Derived.Test.YtjfogodfpmfhhaaYtxtQ
import Derived.Test.YtjfogodfpmfhhaaYsdQ
import Derived.Deep.CutRange
import Derived.Deep.DeepCutAuto
import Derived.Test.YtjfogodfpmfhhaaZHQ
import Derived.Test.YtjfogodfpmfhhaaZFQ
namespace Go.Proofs.Ytjfogodfpmfhhaa
open Go.RowKit Go.Maps
set_option linter.unusedVariables false
set_option linter.unusedSimpArgs false

end Go.Proofs.Ytjfogodfpmfhhaa
