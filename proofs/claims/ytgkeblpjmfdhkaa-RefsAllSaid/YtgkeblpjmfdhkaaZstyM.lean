/- The document's SameType, SameTypes: one type in two places is one. -/
import Derived.Test.YtgkeblpjmfdhkaaZHM
namespace Go.Proofs.Ytgkeblpjmfdhkaa
open Go.RowKit Go.Maps
set_option linter.unusedVariables false
set_option linter.unusedSimpArgs false

end Go.Proofs.Ytgkeblpjmfdhkaa
