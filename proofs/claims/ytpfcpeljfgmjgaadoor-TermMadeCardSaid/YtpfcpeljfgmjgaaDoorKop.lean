/- How slices of bytes that came in as arguments are read (BY). -/
import Derived.Test.YtpfcpeljfgmjgaaDoorKmk
import Derived.Test.YtpfcpeljfgmjgaaDoorOpen
namespace Go.Proofs.YtpfcpeljfgmjgaaDoor
open Go.RowKit Go.WideShapes Go.ChangeShapes

theorem BY_of_trod {H : Type} {enc : TypeId × Value → H} {P : Program} {w : World} {t e : TypeId} {fuel : Nat} {cs : List Value} {x : DataW H × List MemPlace} {a : Option Addr} {len cap : Nat}
    (ht : P.underlying t = some (.slice e)) (he : P.underlying e = some (.int .u8)) (hc : P.cellsOf e = 1) (h : DataW.trod enc P w 0 (fun _ => true) true fuel t cs = some x) (hcs : cs = [.slice a len cap]) :
    ∃ ns : List Nat, ns.length = len ∧ BY w a ns ∧ len ≤ cap ∧ cap ≤ maxLen := by
  subst hcs
  rcases open_ints ht he hc h with ⟨hcs, _⟩ | ⟨y, l, c, zs, hcs, _, hl, hm, hz, _, hcell, hwz⟩
  · simp at hcs
    obtain ⟨rfl, rfl, rfl⟩ := hcs
    exact ⟨[], rfl, fun i x hx => by simp at hx, Nat.le_refl _, by unfold maxLen; omega⟩
  · simp at hcs
    obtain ⟨rfl, rfl, rfl⟩ := hcs
    have hz : zs.length = cap := by simpa using hz
    obtain ⟨h1, h2⟩ := RowF.of_cells (f := Value.int .u8) (d := (0 : Int)) hl hz hcell
    refine ⟨(zs.take len).map Int.toNat, by simp; omega, fun i x hx => ?_, hl, hm⟩
    rw [List.getElem?_map, Option.map_eq_some_iff] at hx
    obtain ⟨v, hv, rfl⟩ := hx
    have hi : i < len := by have := (List.getElem?_eq_some_iff.1 hv).1; simp at this; omega
    have hmem : v ∈ zs := List.mem_of_mem_take (List.mem_of_getElem? hv)
    have hb := bounds_u8 (hwz v hmem)
    have hgd : (zs.take len).getD i 0 = v := by simp [List.getD, hv]
    rcases h2 with h2 | ⟨b, off, e1, hb1, hh, hcl⟩
    · omega
    · refine ⟨by omega, b, off, e1, hh, ?_⟩
      rw [hcl i hi, hgd, Int.toNat_of_nonneg hb.1]

end Go.Proofs.YtpfcpeljfgmjgaaDoor
