/- Mathematics of lexing: two texts, one behind the other, whose tokens do not grow together. No program. Mathematics of the grammar: what an expression's text is read as in any place, but for places. No program. Mathematics of the grammar: the statements' texts by numbers are read as expressions, atoms, wherever they stand. No program. -/
import Derived.Test.YtgkeblpjmfdhkaaZJM
import Derived.Test.YtgkeblpjmfdhkaaZIM
namespace Go.Proofs.Ytgkeblpjmfdhkaa
set_option linter.unusedVariables false
set_option linter.unusedSimpArgs false

end Go.Proofs.Ytgkeblpjmfdhkaa

namespace Go.Proofs.Ytgkeblpjmfdhkaa
set_option linter.unusedVariables false
set_option linter.unusedSimpArgs false

end Go.Proofs.Ytgkeblpjmfdhkaa

namespace Go.Proofs.Ytgkeblpjmfdhkaa
set_option linter.unusedVariables false
set_option linter.unusedSimpArgs false

end Go.Proofs.Ytgkeblpjmfdhkaa
