/- The document's Texts: one list of texts in two places is one. -/
import Derived.Test.YtgkeblpjmfdhkaaZstyR
namespace Go.Proofs.Ytgkeblpjmfdhkaa
open Go.RowKit Go.Maps
set_option linter.unusedVariables false
set_option linter.unusedSimpArgs false

theorem below_drN {B : Nat} {w w' : World} (h : Below B w w') (n : Nat) : Below B w (w'.drewN n) := ⟨h.os, h.tape, h.output, h.size, h.block⟩
theorem strsC_get {l : List By} {i : Nat} {x : By} (h : l[i]? = some x) : (strsC l)[i]? = some (bC x) := by
  unfold strsC; rw [List.getElem?_map, h]; rfl
/-- A text of a list in memory. -/
theorem InC.text {S : Nat → Prop} {w : World} {l : List By} {a : Option Addr} {m c : Nat} (h : InC S w (.s l.length 1 (strsC l)) (.slice a m c)) {i : Nat} {x : By} (hx : l[i]? = some x) :
    ∃ b off, a = some ⟨b, off, none⟩ ∧ b < w.heap.size ∧ w.cell? ⟨b, off + i, none⟩ = some (.string (strB x)) := by
  obtain ⟨_, h0 | ⟨b, off, us, rfl, _, hb, hi, hc⟩⟩ := h.at_
  · have := (List.getElem?_eq_some_iff.1 hx).1; omega
  · have hlt := (List.getElem?_eq_some_iff.1 hx).1
    have hu : i < us.length := by rw [hi.1]; simpa [strsC] using hlt
    have h1 := hi.2 i _ _ (strsC_get hx) (List.getElem?_eq_getElem hu)
    have h2 := hc i _ (List.getElem?_eq_getElem hu)
    rw [h1.val] at h2
    exact ⟨b, off, rfl, hb, h2⟩

end Go.Proofs.Ytgkeblpjmfdhkaa
