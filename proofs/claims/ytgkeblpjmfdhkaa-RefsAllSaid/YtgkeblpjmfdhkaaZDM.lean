/- Package parse's reader: tupleType. Package parse's reader: atomType. Package parse's reader: atomTypes. Package parse's reader: leftType. Package parse's reader: typ. -/
import Derived.Test.YtgkeblpjmfdhkaaZCM
namespace Go.Proofs.Ytgkeblpjmfdhkaa
open Go.RowKit Go.Maps
set_option linter.unusedVariables false
set_option linter.unusedSimpArgs false

theorem tupTy_ne {l : List Ty} (h : l.length ≠ 1) : tupTy l = .mk 2 0 tComma l := by
  unfold tupTy
  split
  · exact absurd rfl h
  · rfl
/-- The only thing behind a slice, cell by cell. -/
theorem InC.only {S : Nat → Prop} {w : World} {k m cp : Nat} {l : List Cl} {a : Option Addr} (h : InC S w (.s 1 k l) (.slice a m cp)) : m = 1 ∧ ∃ (b off : Nat) (us : List Value), a = some ⟨b, off, none⟩ ∧ IsV S w l (.agg us.toArray) ∧ ∀ (i : Nat) (u : Value), us[i]? = some u → w.cell? ⟨b, off + i, none⟩ = some u := by
  obtain ⟨h1, h2 | ⟨b, off, us, h2, h3, h4, h5, h6⟩⟩ := h.at_
  · exact absurd h2 (by decide)
  · exact ⟨h1, b, off, us, h2, ⟨us, rfl, h5⟩, h6⟩
theorem agg_inj {us vs : List Value} (h : Value.agg us.toArray = .agg vs.toArray) : us = vs := by
  have := congrArg (fun v => v.cells.toList) h
  simpa [Value.cells] using this

end Go.Proofs.Ytgkeblpjmfdhkaa

namespace Go.Proofs.Ytgkeblpjmfdhkaa
open Go.RowKit Go.Maps
set_option linter.unusedVariables false
set_option linter.unusedSimpArgs false

end Go.Proofs.Ytgkeblpjmfdhkaa

namespace Go.Proofs.Ytgkeblpjmfdhkaa
open Go.RowKit Go.Maps
set_option linter.unusedVariables false
set_option linter.unusedSimpArgs false

theorem atomTypesL_go {En : Nat} {vs : List By} {T : PS → Ty × PS} {f : Nat} {l : List Ty} {τ : PS} (hf : τ.ts.length ≤ f) (h2 : τ.seesType = true) (hd : Dec T) :
    ∃ f', atomTypesL En vs T f l τ = atomTypesL En vs T f' (l ++ [(atomTypeF En vs T τ).1]) (atomTypeF En vs T τ).2 ∧ (atomTypeF En vs T τ).2.ts.length ≤ f' ∧ (atomTypeF En vs T τ).2.ts.length < τ.ts.length := by
  have h3 := atomTypeF_lt (En := En) (vs := vs) hd h2
  obtain ⟨f', rfl⟩ : ∃ f', f = f' + 1 := ⟨f - 1, by omega⟩
  exact ⟨f', by rw [atomTypesL, if_pos h2], by omega, h3⟩
theorem atomTypesL_end {En : Nat} {vs : List By} {T : PS → Ty × PS} {f : Nat} {l : List Ty} {τ : PS} (h : τ.seesType = false) : atomTypesL En vs T f l τ = (l, τ) := by
  cases f with
  | zero => rfl
  | succ f => rw [atomTypesL, if_neg (by rw [h]; decide)]

end Go.Proofs.Ytgkeblpjmfdhkaa

namespace Go.Proofs.Ytgkeblpjmfdhkaa
open Go.RowKit Go.Maps
set_option linter.unusedVariables false
set_option linter.unusedSimpArgs false

end Go.Proofs.Ytgkeblpjmfdhkaa

namespace Go.Proofs.Ytgkeblpjmfdhkaa
open Go.RowKit Go.Maps
set_option linter.unusedVariables false
set_option linter.unusedSimpArgs false

theorem IsV.drew {S : Nat → Prop} {w : World} {cs : List Cl} {v : Value} (h : IsV S w cs v) : IsV S w.drew cs v := by
  obtain ⟨us, rfl, h1⟩ := h; exact ⟨us, rfl, h1.drew⟩
theorem InC.two {S : Nat → Prop} {w : World} {k : Nat} {t : TypeId} {cs ds : List Cl} {us vs : List Value} (h1 : IsV S w cs (.agg us.toArray)) (h2 : IsV S w ds (.agg vs.toArray)) (hS : S w.heap.size) (hl1 : cs.length = k) (hl2 : ds.length = k) {xs : List Value} (hx : xs = us ++ vs) :
    InC S (w.alloc (.cells xs.toArray t)) (.s 2 k (cs ++ ds)) (.slice (some ⟨w.heap.size, 0, none⟩) 2 2) := by
  subst hx
  refine InC.of_new (InS.app (by simpa [Value.cells] using h1.cells) (by simpa [Value.cells] using h2.cells)) hS (by rw [List.length_append, hl1, hl2]; omega) (by decide)

end Go.Proofs.Ytgkeblpjmfdhkaa
