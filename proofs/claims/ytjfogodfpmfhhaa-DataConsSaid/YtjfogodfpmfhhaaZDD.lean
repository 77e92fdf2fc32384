/- Package parse's reader: tupleType. Package parse's reader: atomType. Package parse's reader: atomTypes. Package parse's reader: leftType. Package parse's reader: typ. -/
import Derived.Test.YtjfogodfpmfhhaaZCD
namespace Go.Proofs.Ytjfogodfpmfhhaa
open Go.RowKit Go.Maps
set_option linter.unusedVariables false
set_option linter.unusedSimpArgs false

theorem agg_inj {us vs : List Value} (h : Value.agg us.toArray = .agg vs.toArray) : us = vs := by
  have := congrArg (fun v => v.cells.toList) h
  simpa [Value.cells] using this

end Go.Proofs.Ytjfogodfpmfhhaa

namespace Go.Proofs.Ytjfogodfpmfhhaa
open Go.RowKit Go.Maps
set_option linter.unusedVariables false
set_option linter.unusedSimpArgs false

end Go.Proofs.Ytjfogodfpmfhhaa

namespace Go.Proofs.Ytjfogodfpmfhhaa
open Go.RowKit Go.Maps
set_option linter.unusedVariables false
set_option linter.unusedSimpArgs false

end Go.Proofs.Ytjfogodfpmfhhaa

namespace Go.Proofs.Ytjfogodfpmfhhaa
open Go.RowKit Go.Maps
set_option linter.unusedVariables false
set_option linter.unusedSimpArgs false

end Go.Proofs.Ytjfogodfpmfhhaa

namespace Go.Proofs.Ytjfogodfpmfhhaa
open Go.RowKit Go.Maps
set_option linter.unusedVariables false
set_option linter.unusedSimpArgs false

end Go.Proofs.Ytjfogodfpmfhhaa
