/- A box one of whose cells is a row that grows by append (x.F = append(x.F, ..)). -/
import Derived.Test.YtgkeblpjmfdhkaaYBM
import Derived.Test.YtgkeblpjmfdhkaaZGM
namespace Go.Proofs.Ytgkeblpjmfdhkaa
open Go.RowKit Go.Maps
set_option linter.unusedVariables false
set_option linter.unusedSimpArgs false

/-- The box, its row, and that the row's things lie behind the box. -/
structure GF (W1 : World) (B : Nat) (t : TypeId) (pre post : List Value) (e : TypeId) (k : Nat) (w : World) (v : Value) (n : Nat) (cs : List Cl) (us : List Value) : Prop where
  box : Box w B t (pre ++ v :: post)
  gr : GR W1 (B + 1) e k w v n cs us
  lt : B < W1.heap.size
  le : W1.heap.size ≤ w.heap.size
section
variable {W1 w w' : World} {B : Nat} {t : TypeId} {pre post : List Value} {e : TypeId} {k : Nat} {v : Value} {n : Nat} {cs : List Cl} {us : List Value}
theorem GF.out {R : Nat} (h : GF W1 B t pre post e k w v n cs us) (ho : Out (fun b => b = R) w w') (hR : R < B) : GF W1 B t pre post e k w' v n cs us :=
  ⟨ho.box h.box (by omega), h.gr.out ho (by omega) (by have := h.lt; omega), h.lt, Nat.le_trans h.le ho.size⟩
theorem GF.start (hB : w.heap.size = B) (cs0 : List Value) (h0 : cs0 = pre ++ .slice none 0 0 :: post) : GF (w.alloc (.cells cs0.toArray t)) B t pre post e k (w.alloc (.cells cs0.toArray t)) (.slice none 0 0) 0 [] [] := by
  subst h0 hB
  exact ⟨Box.new _ _ _, GR.nil _ _ _ _ _, by simp, Nat.le_refl _⟩
theorem set_mid (pre post : List Value) (v u : Value) : (pre ++ v :: post).set pre.length u = pre ++ u :: post := by
  rw [List.set_append_right _ _ (Nat.le_refl _)]; simp
theorem GF.push {W2 w9 : World} {m g cap : Nat} {ds : List Cl} {vs : List Value} {o : Obj} {i : Nat} (h : GF W1 B t pre post e k w v n cs us) (hi : pre.length = i) (hx : InS (New W2) w ds vs) (hv : ∀ q, v.ownBlock = some q → q < W2.heap.size) (hW : W1.heap.size ≤ W2.heap.size)
    (hown : w9.ownsRow (B + 1) e k (.slice (some ⟨g, 0, none⟩) m cap) m (us ++ vs)) (hg : (w.alloc o).grownBy w9 v.ownBlock) (hat : v.ownBlock = some g ∨ g = w.heap.size + 1) :
    GF W1 B t pre post e k (w9.setCell ⟨B, i, none⟩ (.slice (some ⟨g, 0, none⟩) m cap)) (.slice (some ⟨g, 0, none⟩) m cap) m (cs ++ ds) (us ++ vs) := by
  have hb9 := (h.box.alloc o).grown hg (fun q => by have := (h.gr.lt B q.symm).1; omega)
  have hr := h.gr.push hx hv hW hown hg hat
  refine ⟨?_, ⟨?_, ?_⟩, h.lt, ?_⟩
  · have := hb9.set i (.slice (some ⟨g, 0, none⟩) m cap)
    rw [← hi, set_mid] at this
    rw [← hi]; exact this
  · exact own_agree hr.1 fun q hq => Below.heap_setCell w9 ⟨B, i, none⟩ _ q (fun e => by have := (hr.lt q hq).1; have e' : q = B := e; omega)
  · exact hr.2.set (fun _ hn => by have := hn.1; unfold New at this; have := h.lt; exact absurd this (by show ¬ _; simp at *; omega)) _
  · have := hg.size; have := h.le; simp at *; omega
theorem GF.done {W0 : World} (h : GF W1 B t pre post e k w v n cs us) (hW : W0.heap.size ≤ B) (hl : cs.length = n * k) : InC (New W0) w (.s n k cs) v :=
  InC.of_owns h.gr.1 (h.gr.2.mono fun b _ hb => by have := hb.1; have := h.lt; unfold New at *; omega) (fun b hv => by have := (ownsRow_lo h.gr.1 b hv).1; unfold New; omega) hl
theorem GF.shape (h : GF W1 B t pre post e k w v n cs us) : ∃ a c, v = .slice a n c := h.gr.shape
end
theorem Cay.put {c : Px} {W0 w : World} {σ : PS} (h : Cay c W0 w σ) {B : Nat} (hB : W0.heap.size ≤ B) (o : Nat) (v : Value) : Cay c W0 (w.setCell ⟨B, o, none⟩ v) σ := by
  have hlt := h.lt
  exact ⟨h.rd.keep fun k hk => Below.heap_setCell w ⟨B, o, none⟩ v k (fun e => by have e' : k = B := e; omega), h.out.setCell (.inr hB) v, h.lt⟩

end Go.Proofs.Ytgkeblpjmfdhkaa
