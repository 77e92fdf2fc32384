/- Package data: names that are counted in a map; isNew, allNew. Package data: the shapes that types may have. Package data: newChecker, isPlace, mayNode, mayTypes, mayBegin, mayCon. Package data: mayTypes, mayBegin, mayCon. Package data: mayBegin, mayCon. Package data: Check. What the texts of DataWrong are; awake of the statements on data. Package data: Con. -/
import Derived.Test.YtgkeblpjmfdhkaaZGM
import Derived.Test.YtgkeblpjmfdhkaaYtxtM
import Derived.Test.YtgkeblpjmfdhkaaZHM
import Derived.Test.YtgkeblpjmfdhkaaYSM
import Derived.Deep.RegionLaw
import Derived.Deep.CutRange
import Derived.Deep.DeepCutAuto
import Derived.Test.YtgkeblpjmfdhkaaYAM
import Derived.Test.YtgkeblpjmfdhkaaZIM
import Derived.Test.YtgkeblpjmfdhkaaZAM
import Derived.Test.YtgkeblpjmfdhkaaYBM
namespace Go.Proofs.Ytgkeblpjmfdhkaa
open Go.RowKit Go.Maps
set_option linter.unusedVariables false
set_option linter.unusedSimpArgs false

end Go.Proofs.Ytgkeblpjmfdhkaa

namespace Go.Proofs.Ytgkeblpjmfdhkaa
open Go.RowKit Go.Maps
open Go.WideMaps (KeyLaw)
set_option linter.unusedVariables false
set_option linter.unusedSimpArgs false

end Go.Proofs.Ytgkeblpjmfdhkaa

namespace Go.Proofs.Ytgkeblpjmfdhkaa
open Go.RowKit Go.Maps
set_option linter.unusedVariables false
set_option linter.unusedSimpArgs false

def nodeOk (sh : List (By × Nat)) (n : Nat) (k i : Int) (s : By) (m : Nat) : Bool := if k = 1 then decide (0 ≤ i ∧ i < (n : Int)) else if k = 2 then decide ((s, m) ∈ sh) else false
mutual
def tyOk (sh : List (By × Nat)) (n : Nat) : Ty → Bool
  | .mk k i s kids => nodeOk sh n k i s kids.length && tysOk sh n kids
def tysOk (sh : List (By × Nat)) (n : Nat) : List Ty → Bool
  | [] => true
  | x :: r => tyOk sh n x && tysOk sh n r
end
mutual
def tyFit : Ty → Prop
  | .mk k i s kids => s.length ≤ 1000000 ∧ kids.length ≤ 1000000 ∧ tysFit kids
def tysFit : List Ty → Prop
  | [] => True
  | x :: r => tyFit x ∧ tysFit r
end
end Go.Proofs.Ytgkeblpjmfdhkaa

namespace Go.Proofs.Ytgkeblpjmfdhkaa
open Go.RowKit Go.Maps
set_option linter.unusedVariables false
set_option linter.unusedSimpArgs false

end Go.Proofs.Ytgkeblpjmfdhkaa

namespace Go.Proofs.Ytgkeblpjmfdhkaa
open Go.RowKit Go.Maps
set_option linter.unusedVariables false
set_option linter.unusedSimpArgs false

end Go.Proofs.Ytgkeblpjmfdhkaa

namespace Go.Proofs.Ytgkeblpjmfdhkaa
open Go.RowKit Go.Maps
set_option linter.unusedVariables false
set_option linter.unusedSimpArgs false

def Dt.fit (d : Dt) : Prop := d.s.length ≤ 1000000 ∧ d.vars.length ≤ 1000000 ∧ (∀ s ∈ d.vars, s.length ≤ 1000000) ∧ ∀ c ∈ d.cons, c.s.length ≤ 1000000 ∧ tysFit c.args
theorem drop_cons {α : Type} {l : List α} {k : Nat} {x : α} (h : l[k]? = some x) : l.drop k = x :: l.drop (k + 1) := by
  obtain ⟨h1, h2⟩ := List.getElem?_eq_some_iff.1 h
  rw [List.drop_eq_getElem_cons h1, h2]

end Go.Proofs.Ytgkeblpjmfdhkaa

namespace Go.Proofs.Ytgkeblpjmfdhkaa
open Go.RowKit Go.Maps
set_option linter.unusedVariables false
set_option linter.unusedSimpArgs false

end Go.Proofs.Ytgkeblpjmfdhkaa

namespace Go.Proofs.Ytgkeblpjmfdhkaa
open Go.RowKit Go.Maps
set_option linter.unusedVariables false
set_option linter.unusedSimpArgs false

end Go.Proofs.Ytgkeblpjmfdhkaa
