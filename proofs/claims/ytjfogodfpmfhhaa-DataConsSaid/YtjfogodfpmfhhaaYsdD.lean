/- The document's SameDatas: declarations of data in two places are the same. -/
import Derived.Test.YtjfogodfpmfhhaaYtxtD
import Derived.Test.YtjfogodfpmfhhaaZGD
import Derived.StillTail
import Derived.StillTailTactics
import Derived.Deep.CutRange
import Derived.Deep.DeepCutAuto
namespace Go.Proofs.Ytjfogodfpmfhhaa
open Go.RowKit Go.Maps
set_option linter.unusedVariables false
set_option linter.unusedSimpArgs false

/-- A declaration of data, its variables and its Cons. -/
theorem IsV.dtp {S : Nat → Prop} {w : World} {v : Value} {x : Dt} (h : IsV S w (dtC x) v) : ∃ (a1 a2 : Option Addr) (c1 c2 : Nat), v = .agg #[.string (strB x.s), .int .i64 x.p, .slice a1 x.vars.length c1, .slice a2 x.cons.length c2] ∧ InC S w (.s x.vars.length 1 (strsC x.vars)) (.slice a1 x.vars.length c1) ∧ InC S w (.s x.cons.length 3 (x.cons.flatMap cnC)) (.slice a2 x.cons.length c2) := by
  obtain ⟨us, rfl, h⟩ := h
  unfold dtC at h
  obtain ⟨u0, r0, rfl, l0⟩ := three_cons (n := 3) h.1
  obtain ⟨u1, r1, rfl, l1⟩ := three_cons (n := 2) l0
  obtain ⟨u2, r2, rfl, l2⟩ := three_cons (n := 1) l1
  obtain ⟨u3, r3, rfl, l3⟩ := three_cons (n := 0) l2
  obtain rfl := List.eq_nil_of_length_eq_zero l3
  obtain rfl := h.head.val
  obtain rfl := h.tail.head.val
  obtain ⟨a1, c1, rfl, _, _⟩ := h.tail.tail.head.slice
  obtain ⟨a2, c2, rfl, _, _⟩ := h.tail.tail.tail.head.slice
  exact ⟨a1, a2, c1, c2, rfl, h.tail.tail.head, h.tail.tail.tail.head⟩

theorem box_two {w : World} {o : Obj} {t : TypeId} {cs : List Value} : Box ((w.alloc o).alloc (.cells cs.toArray t)) (w.heap.size + 1) t cs := by
  have := Box.new (w.alloc o) t cs
  rwa [World.size_alloc] at this
end Go.Proofs.Ytjfogodfpmfhhaa
