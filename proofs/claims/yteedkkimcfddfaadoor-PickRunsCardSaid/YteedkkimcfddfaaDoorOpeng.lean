/- How a slice of slices of bools that came in as an argument is read. -/
import Derived.Test.YteedkkimcfddfaaDoorLawruns
import Derived.Test.YteedkkimcfddfaaDoorOpen
namespace Go.Proofs.YteedkkimcfddfaaDoor
open Go.RowKit Go.WideShapes Go.ChangeShapes

theorem Grid_of_trod {H : Type} {enc : TypeId × Value → H} {P : Program} {w : World} {t e q : TypeId} {fuel : Nat} {cs : List Value} {x : DataW H × List MemPlace} {a : Option Addr} {len cap : Nat}
    (ht : P.underlying t = some (.slice e)) (he : P.underlying e = some (.slice q)) (hq : P.underlying q = some .bool) (ce : P.cellsOf e = 1) (cq : P.cellsOf q = 1)
    (h : DataW.trod enc P w 0 (fun _ => true) true fuel t cs = some x) (hcs : cs = [.slice a len cap]) : Grid w a len := by
  subst hcs
  rcases Deep.open_bool_rows ht he hq ce cq h with ⟨hcs, _⟩ | ⟨y, l, c, A, L, C, B, hcs, _, hl, hm, _, hrow⟩
  · simp at hcs
    exact .inl hcs.2.1
  · simp at hcs
    obtain ⟨rfl, rfl, rfl⟩ := hcs
    by_cases h0 : len = 0
    · exact .inl h0
    · obtain ⟨b, off, spot⟩ := y
      have hc := (hrow 0 (by omega)).1
      have hspot : spot = none := by simpa [Addr.add] using World.cell?_spot hc
      subst hspot
      refine .inr ⟨b, off, rfl, World.block_lt_of_cell? _ _ hc, fun k hk => ?_⟩
      obtain ⟨h1, h2, h3, h4, h5⟩ := hrow k (by omega)
      rw [Addr.add_lit] at h1
      cases hA : A k with
      | none =>
        rw [hA] at h1
        have hz : L k = 0 := by have := h4 hA; omega
        exact ⟨_, _, _, [], h1, by simp [hz], .inl hz⟩
      | some y =>
        rw [hA] at h1
        refine ⟨_, _, _, _, h1, RowF.of_cells (zs := (List.range (C k)).map (B k)) h2 (by simp) fun i hi => ?_⟩
        have hi' : i < C k := by simpa using hi
        rw [(h5 y hA).2 i hi']; simp [List.getD, hi']

end Go.Proofs.YteedkkimcfddfaaDoor
