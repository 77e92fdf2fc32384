/- The document's parser: names (tokens in a row). The document's parser: place (of a name among some). The document's parser: lams. The document's parser: one token on; lists of names that stay. -/
import Derived.Test.YtjfogodfpmfhhaaYAD
namespace Go.Proofs.Ytjfogodfpmfhhaa
open Go.RowKit Go.Maps
set_option linter.unusedVariables false
set_option linter.unusedSimpArgs false

end Go.Proofs.Ytjfogodfpmfhhaa

namespace Go.Proofs.Ytjfogodfpmfhhaa
open Go.RowKit Go.Maps
set_option linter.unusedVariables false
set_option linter.unusedSimpArgs false

end Go.Proofs.Ytjfogodfpmfhhaa

namespace Go.Proofs.Ytjfogodfpmfhhaa
open Go.RowKit Go.Maps
set_option linter.unusedVariables false
set_option linter.unusedSimpArgs false

end Go.Proofs.Ytjfogodfpmfhhaa

namespace Go.Proofs.Ytjfogodfpmfhhaa
open Go.RowKit Go.Maps
set_option linter.unusedVariables false
set_option linter.unusedSimpArgs false

end Go.Proofs.Ytjfogodfpmfhhaa
