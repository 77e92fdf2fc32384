/- A drawn region whose operations each leave a thing of its own kind, whatever the order: the kinds are kept by new memory. Kinds of what an operation leaves: a value, a table of texts, a place in one. The statements' texts by numbers: expr. (Written by wip/tools/genex9.py.) The statements' texts by numbers: expr. (Written by wip/tools/genexr.py 0.) The statements' texts by numbers: expr. (Written by wip/tools/genexr.py 1.) The statements' texts by numbers: expr. (Written by wip/tools/genexr.py 2.) The statements' texts by numbers: expr. (Written by wip/tools/genexr.py 4.) -/
import Derived.Test.YtgkeblpjmfdhkaaZHR
import Derived.Test.YtgkeblpjmfdhkaaZAR
import Derived.Test.YtgkeblpjmfdhkaaZJR
import Derived.Deep.RegionWith
namespace Go.Proofs.Ytgkeblpjmfdhkaa
open Go Go.RowKit
set_option linter.unusedVariables false
set_option linter.unusedSimpArgs false

section
variable {P : Program} {ops : Array Oper} {V : Nat → Value → World → Prop} {a0 : Act} {w0 : World}
end

end Go.Proofs.Ytgkeblpjmfdhkaa

namespace Go.Proofs.Ytgkeblpjmfdhkaa
open Go Go.RowKit
set_option linter.unusedVariables false
set_option linter.unusedSimpArgs false

section
variable {P : Program} {o : Oper} {a : Act} {w : World} {K : Act → World → Prop} {Q : Exit → Act → World → Prop}
end
end Go.Proofs.Ytgkeblpjmfdhkaa

namespace Go.Proofs.Ytgkeblpjmfdhkaa
open Go.RowKit
set_option linter.unusedVariables false
set_option linter.unusedSimpArgs false

end Go.Proofs.Ytgkeblpjmfdhkaa

namespace Go.Proofs.Ytgkeblpjmfdhkaa
open Go.RowKit
set_option linter.unusedVariables false
set_option linter.unusedSimpArgs false

end Go.Proofs.Ytgkeblpjmfdhkaa

namespace Go.Proofs.Ytgkeblpjmfdhkaa
open Go.RowKit
set_option linter.unusedVariables false
set_option linter.unusedSimpArgs false

end Go.Proofs.Ytgkeblpjmfdhkaa

namespace Go.Proofs.Ytgkeblpjmfdhkaa
open Go.RowKit
set_option linter.unusedVariables false
set_option linter.unusedSimpArgs false

end Go.Proofs.Ytgkeblpjmfdhkaa

namespace Go.Proofs.Ytgkeblpjmfdhkaa
open Go.RowKit
set_option linter.unusedVariables false
set_option linter.unusedSimpArgs false

end Go.Proofs.Ytgkeblpjmfdhkaa
