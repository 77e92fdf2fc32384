/- How a slice of bytes that came in as an argument is read; an int slice that is nil. -/
import Derived.Test.YtdbjmonboecfgaaOpen
import Derived.Test.YtdbjmonboecfgaaGmk
namespace Go.Proofs.Ytdbjmonboecfgaa
open Go.RowKit Go.WideShapes Go.ChangeShapes

/-- A slice of bytes that came in, read. -/
theorem RowY_of_trod {H : Type} {enc : TypeId × Value → H} {P : Program} {w : World} {t e : TypeId} {fuel : Nat} {cs : List Value} {x : DataW H × List MemPlace} {a : Option Addr} {len cap : Nat}
    (ht : P.underlying t = some (.slice e)) (he : P.underlying e = some (.int .u8)) (hc : P.cellsOf e = 1) (h : DataW.trod enc P w 0 (fun _ => true) true fuel t cs = some x) (hcs : cs = [.slice a len cap]) :
    ∃ xs, RowY 0 w.heap.size w a len xs ∧ ∀ i, i < len → xs.getD i 0 ≤ 255 := by
  subst hcs
  rcases open_ints ht he hc h with ⟨hcs, _⟩ | ⟨y, l, c, zs, hcs, _, hl, hm, hz, _, hcell, hwz⟩
  · simp at hcs
    obtain ⟨rfl, rfl, rfl⟩ := hcs
    exact ⟨[], ⟨rfl, .inl rfl⟩, fun i hi => absurd hi (by omega)⟩
  · simp at hcs
    obtain ⟨rfl, rfl, rfl⟩ := hcs
    have hz : zs.length = cap := by simpa using hz
    have hr := RowF.of_cells (f := Value.int .u8) (d := (0 : Int)) hl hz hcell
    have hb : ∀ i, i < len → 0 ≤ (zs.take len).getD i 0 ∧ (zs.take len).getD i 0 ≤ 255 := fun i hi => by
      have : (zs.take len).getD i 0 = zs[i]'(by omega) := by simp [List.getD, hi, show i < zs.length by omega]
      rw [this]
      exact bounds_u8 (hwz _ (List.getElem_mem _))
    obtain ⟨h1, h2⟩ := hr
    have e : ∀ i, i < len → ((zs.take len).map Int.toNat).getD i 0 = ((zs.take len).getD i 0).toNat := fun i hi => by
      simp [List.getD, hi, show i < zs.length by omega]
    refine ⟨(zs.take len).map Int.toNat, ⟨by simpa using h1, ?_⟩, fun i hi => ?_⟩
    · rcases h2 with h2 | ⟨b, off, e1, hb1, hh, hcl⟩
      · exact .inl h2
      · exact .inr ⟨b, off, e1, hb1, hh, fun i hi => by rw [hcl i hi, e i hi]; dsimp only; rw [Int.toNat_of_nonneg (hb i hi).1]⟩
    · rw [e i hi]
      have := hb i hi
      omega

/-- A slice of ints that came in as nil has no room. -/
theorem nil_of_trod {H : Type} {enc : TypeId × Value → H} {P : Program} {w : World} {t e : TypeId} {fuel : Nat} {cs : List Value} {x : DataW H × List MemPlace} {a : Option Addr} {len cap : Nat}
    (ht : P.underlying t = some (.slice e)) (he : P.underlying e = some (.int .i64)) (hc : P.cellsOf e = 1) (h : DataW.trod enc P w 0 (fun _ => true) true fuel t cs = some x) (hcs : cs = [.slice a len cap]) : a = none → cap = 0 := by
  subst hcs
  rintro rfl
  rcases open_ints ht he hc h with ⟨hcs, _⟩ | ⟨y, l, c, zs, hcs, _⟩
  · simp at hcs; exact hcs.2
  · simp at hcs

end Go.Proofs.Ytdbjmonboecfgaa
