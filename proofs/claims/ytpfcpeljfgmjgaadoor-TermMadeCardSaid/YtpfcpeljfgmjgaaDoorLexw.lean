/- Contracts: whether a text is a word. -/
import Derived.Test.YtpfcpeljfgmjgaaDoorLexr
import Derived.Lib.Strings
namespace Go.Proofs.YtpfcpeljfgmjgaaDoor
open Go.RowKit
set_option linter.unusedVariables false
set_option linter.unusedSimpArgs false

theorem wordB_or (l : By) : wordB l = ((l == [100, 97, 116, 97]) || ((l == [108, 101, 116]) || ((l == [105, 110]) || ((l == [105, 102]) || ((l == [116, 104, 101, 110]) || ((l == [101, 108, 115, 101]) || ((l == [99, 97, 115, 101]) || ((l == [111, 102]) || ((l == [116, 114, 117, 101]) || (l == [102, 97, 108, 115, 101])))))))))) := by
  unfold wordB wordsL
  rw [Bool.eq_iff_iff]
  simp [List.contains_iff_mem]

end Go.Proofs.YtpfcpeljfgmjgaaDoor
