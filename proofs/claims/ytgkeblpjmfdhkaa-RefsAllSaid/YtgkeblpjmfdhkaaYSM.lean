/- The document's SameDatas: declarations of data in two places are the same. The document's SameExpr: one expression in two places is one. The document's SameProgram: one program in two places is one. -/
import Derived.Test.YtgkeblpjmfdhkaaYtxtM
import Derived.Test.YtgkeblpjmfdhkaaZGM
import Derived.StillTail
import Derived.StillTailTactics
import Derived.Deep.CutRange
import Derived.Deep.DeepCutAuto
import Derived.Test.YtgkeblpjmfdhkaaZHM
import Derived.Test.YtgkeblpjmfdhkaaZFM
import Derived.Test.YtgkeblpjmfdhkaaZCM
namespace Go.Proofs.Ytgkeblpjmfdhkaa
open Go.RowKit Go.Maps
set_option linter.unusedVariables false
set_option linter.unusedSimpArgs false

end Go.Proofs.Ytgkeblpjmfdhkaa

namespace Go.Proofs.Ytgkeblpjmfdhkaa
open Go.RowKit Go.Maps
set_option linter.unusedVariables false
set_option linter.unusedSimpArgs false

end Go.Proofs.Ytgkeblpjmfdhkaa

namespace Go.Proofs.Ytgkeblpjmfdhkaa
open Go.RowKit Go.Maps
set_option linter.unusedVariables false
set_option linter.unusedSimpArgs false

/-- A program's two rows. -/
theorem IsV.pgp {S : Nat → Prop} {w : World} {v : Value} {x : Pg} (h : IsV S w (pgC x) v) : ∃ (a1 a2 : Option Addr) (c1 c2 : Nat), v = .agg #[.slice a1 x.datas.length c1, .slice a2 x.binds.length c2] ∧ InC S w (.s x.datas.length 4 (x.datas.flatMap dtC)) (.slice a1 x.datas.length c1) ∧ InC S w (.s x.binds.length 8 (x.binds.flatMap bdC)) (.slice a2 x.binds.length c2) := by
  obtain ⟨us, rfl, h⟩ := h
  unfold pgC at h
  obtain ⟨u0, r0, rfl, l0⟩ := three_cons (n := 1) h.1
  obtain ⟨u1, r1, rfl, l1⟩ := three_cons (n := 0) l0
  obtain rfl := List.eq_nil_of_length_eq_zero l1
  obtain ⟨a1, c1, rfl, _, _⟩ := h.head.slice
  obtain ⟨a2, c2, rfl, _, _⟩ := h.tail.head.slice
  exact ⟨a1, a2, c1, c2, rfl, h.head, h.tail.head⟩
end Go.Proofs.Ytgkeblpjmfdhkaa
