/- The law RefsBound: a name that is bound around all is not free; all others are as they were. -/
import Derived.Test.YtgkeblpjmfdhkaaFLR
import Derived.Test.YtgkeblpjmfdhkaaZMR
import Derived.Test.YtgkeblpjmfdhkaaZJR
import Derived.Test.YtgkeblpjmfdhkaaYtxtR
namespace Go.Proofs.Ytgkeblpjmfdhkaa
open Go.RowKit Go.Maps
set_option linter.unusedVariables false
set_option linter.unusedSimpArgs false

theorem run_cat14 {P : Program} {a b c : By} (h : c = a ++ b) (hl : a.length + b.length ≤ 9000000000000000000) (W : World) : Sem.run P (Op.stringOp .add (strB a) (strB b)) W = .ok (.string (strB c)) W := by
  subst h
  rw [← strB_app]
  exact run_string_add_sum W (strB a) (strB b) (by rw [strB_size, strB_size]; omega)
end Go.Proofs.Ytgkeblpjmfdhkaa
