/- A box one of whose cells is a row that grows by append, and whose row and things lie behind a world. -/
import Derived.Test.YtgkeblpjmfdhkaaYaltM
namespace Go.Proofs.Ytgkeblpjmfdhkaa
open Go.RowKit Go.Maps
set_option linter.unusedVariables false
set_option linter.unusedSimpArgs false

structure GH (W1 : World) (B : Nat) (t : TypeId) (pre post : List Value) (e : TypeId) (k : Nat) (w : World) (v : Value) (n : Nat) (cs : List Cl) (us : List Value) : Prop where
  box : Box w B t (pre ++ v :: post)
  gr : GR W1 W1.heap.size e k w v n cs us
  lt : B < W1.heap.size
  le : W1.heap.size ≤ w.heap.size
section
variable {W1 w w' : World} {B : Nat} {t : TypeId} {pre post : List Value} {e : TypeId} {k : Nat} {v : Value} {n : Nat} {cs : List Cl} {us : List Value}
theorem GH.out {R : Nat} (h : GH W1 B t pre post e k w v n cs us) (ho : Out (fun b => b = R) w w') (hR : R ≠ B) (hR1 : R < W1.heap.size) : GH W1 B t pre post e k w' v n cs us :=
  ⟨ho.box h.box (fun q => hR q.symm), h.gr.out ho hR1 hR1, h.lt, Nat.le_trans h.le ho.size⟩
theorem GH.start {cs0 : List Value} (h : Box w B t cs0) (h0 : cs0 = pre ++ .slice none 0 0 :: post) : GH w B t pre post e k w (.slice none 0 0) 0 [] [] := by
  subst h0
  exact ⟨h, GR.nil _ _ _ _ _, h.lt, Nat.le_refl _⟩
theorem GH.push {W2 w9 : World} {m g cap : Nat} {ds : List Cl} {vs : List Value} {o : Obj} {i : Nat} (h : GH W1 B t pre post e k w v n cs us) (hi : pre.length = i) (hx : InS (New W2) w ds vs) (hv : ∀ q, v.ownBlock = some q → q < W2.heap.size) (hW : W1.heap.size ≤ W2.heap.size)
    (hown : w9.ownsRow W1.heap.size e k (.slice (some ⟨g, 0, none⟩) m cap) m (us ++ vs)) (hg : (w.alloc o).grownBy w9 v.ownBlock) (hat : v.ownBlock = some g ∨ g = w.heap.size + 1) :
    GH W1 B t pre post e k (w9.setCell ⟨B, i, none⟩ (.slice (some ⟨g, 0, none⟩) m cap)) (.slice (some ⟨g, 0, none⟩) m cap) m (cs ++ ds) (us ++ vs) := by
  have hlt := h.lt
  have hb9 := (h.box.alloc o).grown hg (fun q => by have := (h.gr.lt B q.symm).1; omega)
  have hr := h.gr.push hx hv hW hown hg hat
  refine ⟨?_, ⟨?_, ?_⟩, h.lt, ?_⟩
  · have := hb9.set i (.slice (some ⟨g, 0, none⟩) m cap)
    rw [← hi, set_mid] at this
    rw [← hi]; exact this
  · exact own_agree hr.1 fun q hq => Below.heap_setCell w9 ⟨B, i, none⟩ _ q (fun e => by have := (hr.lt q hq).1; have e' : q = B := e; omega)
  · exact hr.2.set (fun _ hn => by have := hn.1; unfold New at this; exact absurd this (by show ¬ _; simp at *; omega)) _
  · have := hg.size; have := h.le; simp at *; omega
/-- What lies ahead of that world, beside the box, stays. -/
theorem GH.block {w9 : World} {o : Obj} {i : Nat} {u : Value} (h : GH W1 B t pre post e k w v n cs us) (hg : (w.alloc o).grownBy w9 v.ownBlock) : ∀ b, b < W1.heap.size → b ≠ B → (w9.setCell ⟨B, i, none⟩ u).heap[b]? = w.heap[b]? := fun b hb hn => by
  have hle := h.le
  exact (Below.heap_setCell w9 ⟨B, i, none⟩ u b hn).trans ((hg.block b (by simp; omega) (fun q => by have := (h.gr.lt b q.symm).1; omega)).trans (Below.heap_alloc w o b (by omega)))
theorem GH.shape (h : GH W1 B t pre post e k w v n cs us) : ∃ a c, v = .slice a n c := h.gr.shape
theorem GH.done {W0 : World} (h : GH W1 B t pre post e k w v n cs us) (hW : W0.heap.size ≤ W1.heap.size) (hl : cs.length = n * k) : InC (New W0) w (.s n k cs) v := (h.gr.done (Nat.le_refl _) hl).mono fun b _ hb => by unfold New at *; omega
end

end Go.Proofs.Ytgkeblpjmfdhkaa
