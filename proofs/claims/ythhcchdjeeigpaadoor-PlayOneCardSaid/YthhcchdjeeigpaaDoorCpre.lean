/- Words for the ways through both Steps. -/
import Derived.Test.YthhcchdjeeigpaaDoorTwo
import Derived.Test.YthhcchdjeeigpaaDoorCswap
namespace Go.Proofs.YthhcchdjeeigpaaDoor
open Go.RowKit
set_option linter.unusedVariables false
set_option linter.unusedSimpArgs false

theorem made_row (w : World) (o1 o2 : Obj) : (((w.alloc o1).alloc o2).alloc (.cells #[] 3)).ownsRow (w.heap.size + 2) 3 1 (.slice (some ⟨w.heap.size + 1 + 1, 0, none⟩) 0 0) 0 [] := by
  have := World.ownsRow_made (base := w.heap.size + 2) (e := 3) (size := 1) ((w.alloc o1).alloc o2) #[] 0 (by simp) (by decide) rfl
  simpa using this
theorem three_news (w : World) (o1 o2 o3 : Obj) {lo hi : Nat} {bb off la : Nat} {up : List Nat} (hp : RowN lo hi w (some ⟨bb, off, none⟩) la up) (hhi : hi ≤ w.heap.size) : ∀ j u, (intsOf up)[j]? = some u → (((w.alloc o1).alloc o2).alloc o3).cell? ((⟨bb, off, none⟩ : Addr).add j) = some u :=
  (((hp.alloc hhi o1).alloc (by simp; omega) o2).alloc (by simp; omega) o3).news

/-- The world behind the cells' copying: the task's own block, the result's, the copy. -/
theorem after_append {w w1 : World} {t1 t2 : TypeId} {cs1 cs2 : List Value} {v7 : Value} {la : Nat} {up : List Nat} (hgr : (((w.alloc (.cells cs1.toArray t1)).alloc (.cells cs2.toArray t2)).alloc (.cells #[] 3)).grownBy w1 (some (w.heap.size + 1 + 1)))
    (hown : w1.ownsRow (w.heap.size + 2) 3 1 v7 la (intsOf up)) (hl : up.length = la) (hn : 0 < la) :
    ∃ g c, v7 = .slice (some ⟨g, 0, none⟩) la c ∧ w.heap.size + 2 ≤ g ∧ Own w1 g up ∧ Box w1 w.heap.size t1 cs1 ∧ Box w1 (w.heap.size + 1) t2 cs2 ∧ Below w.heap.size w w1 := by
  obtain ⟨g, c, h1, h2, h3⟩ := own_of_owns (p := up) (n := la) hown hl hn
  have B1 : Box (((w.alloc (.cells cs1.toArray t1)).alloc (.cells cs2.toArray t2)).alloc (.cells #[] 3)) w.heap.size t1 cs1 := ((Box.new _ _ _).alloc _).alloc _
  have B2 : Box (((w.alloc (.cells cs1.toArray t1)).alloc (.cells cs2.toArray t2)).alloc (.cells #[] 3)) (w.heap.size + 1) t2 cs2 := by
    have := (Box.new (w.alloc (.cells cs1.toArray t1)) t2 cs2).alloc (.cells #[] 3)
    rwa [World.size_alloc] at this
  exact ⟨g, c, h1, h2, h3, B1.grown hgr (by simp; omega), B2.grown hgr (by simp), ((below_two _ _ _).alloc (by simp; omega) _).grown hgr (by simp; omega) (by rintro k hk; cases hk; omega)⟩

end Go.Proofs.YthhcchdjeeigpaaDoor
