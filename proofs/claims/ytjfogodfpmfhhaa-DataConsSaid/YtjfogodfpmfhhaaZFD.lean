/- Package parse's reader: let. Package parse's reader: choice. Package parse's reader: alt. A whole struct stored into a block of its own: the world behind it is opaque. No program. Package parse's reader: cases. Package parse's reader: app. Package parse's reader: expr; an expression, a type, however deep. -/
import Derived.Test.YtjfogodfpmfhhaaZED
import Derived.Test.YtjfogodfpmfhhaaZDD
import Derived.Test.YtjfogodfpmfhhaaZCD
import Derived.Deep.MidRow
namespace Go.Proofs.Ytjfogodfpmfhhaa
open Go.RowKit Go.Maps
set_option linter.unusedVariables false
set_option linter.unusedSimpArgs false

end Go.Proofs.Ytjfogodfpmfhhaa

namespace Go.Proofs.Ytjfogodfpmfhhaa
open Go.RowKit Go.Maps
set_option linter.unusedVariables false
set_option linter.unusedSimpArgs false

end Go.Proofs.Ytjfogodfpmfhhaa

namespace Go.Proofs.Ytjfogodfpmfhhaa
open Go.RowKit Go.Maps
set_option linter.unusedVariables false
set_option linter.unusedSimpArgs false

end Go.Proofs.Ytjfogodfpmfhhaa

namespace Go.Proofs.Ytjfogodfpmfhhaa
open Go.RowKit
set_option linter.unusedVariables false
set_option linter.unusedSimpArgs false

end Go.Proofs.Ytjfogodfpmfhhaa

namespace Go.Proofs.Ytjfogodfpmfhhaa
open Go.RowKit Go.Maps
set_option linter.unusedVariables false
set_option linter.unusedSimpArgs false

end Go.Proofs.Ytjfogodfpmfhhaa

namespace Go.Proofs.Ytjfogodfpmfhhaa
open Go.RowKit Go.Maps
set_option linter.unusedVariables false
set_option linter.unusedSimpArgs false

end Go.Proofs.Ytjfogodfpmfhhaa

namespace Go.Proofs.Ytjfogodfpmfhhaa
open Go.RowKit Go.Maps
set_option linter.unusedVariables false
set_option linter.unusedSimpArgs false

end Go.Proofs.Ytjfogodfpmfhhaa
