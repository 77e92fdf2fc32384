/- How a slice of integers, of bools, that came in as an argument is read. The table of math/bits, off the row's condition. How slices of bytes, and an operation, that came in as arguments are read. How arguments of layer 5's laws are read: slices of slices of bytes; the room of a slice of ints. -/
import Derived.Test.YtpfcpeljfgmjgaaDoorZpa
import Derived.ProofKit
import Derived.OpenShut
import Derived.Lib.SmallJoins
import Derived.Deep.Grids
import Derived.Test.YtpfcpeljfgmjgaaDoorRows
import Derived.Test.YtpfcpeljfgmjgaaDoorZpl
import Derived.Lib.LaidTab
import Derived.LaidMore
import Derived.Stop.Joined
import Derived.Test.YtpfcpeljfgmjgaaDoorZpi
import Derived.Test.YtpfcpeljfgmjgaaDoorPscrz
import Derived.Deep.Matrix
namespace Go.Proofs.YtpfcpeljfgmjgaaDoor
open Go.RowKit Go.WideShapes Go.ChangeShapes

theorem RowF.of_cells {α : Type} {f : α → Value} {d : α} {w : World} {x : Addr} {len cap : Nat} {zs : List α} (hl : len ≤ cap) (hz : zs.length = cap) (hcell : ∀ i, i < zs.length → w.cell? (x.add i) = some (f (zs.getD i d))) :
    RowF f d 0 w.heap.size w (some x) len (zs.take len) := by
  refine ⟨by simp; omega, ?_⟩
  by_cases h0 : len = 0
  · exact .inl h0
  · obtain ⟨b, off, spot⟩ := x
    have hc := hcell 0 (by omega)
    have hspot : spot = none := by simpa [Addr.add] using World.cell?_spot hc
    subst hspot
    refine .inr ⟨b, off, rfl, Nat.zero_le _, World.block_lt_of_cell? _ _ hc, fun i hi => ?_⟩
    have := hcell i (by omega)
    rw [Addr.add_lit] at this
    rw [this]
    simp [List.getD, hi]

/-- A slice of ints that came in, read. -/
theorem Row_of_trod {H : Type} {enc : TypeId × Value → H} {P : Program} {w : World} {t e : TypeId} {fuel : Nat} {cs : List Value} {x : DataW H × List MemPlace} {a : Option Addr} {len cap : Nat}
    (ht : P.underlying t = some (.slice e)) (he : P.underlying e = some (.int .i64)) (hc : P.cellsOf e = 1) (h : DataW.trod enc P w 0 (fun _ => true) true fuel t cs = some x) (hcs : cs = [.slice a len cap]) :
    ∃ xs, Row 0 w.heap.size w a len xs := by
  subst hcs
  rcases open_ints ht he hc h with ⟨hcs, _⟩ | ⟨y, l, c, zs, hcs, _, hl, hm, hz, _, hcell, hwz⟩
  · simp at hcs
    obtain ⟨rfl, rfl, rfl⟩ := hcs
    exact ⟨[], rfl, .inl rfl⟩
  · simp at hcs
    obtain ⟨rfl, rfl, rfl⟩ := hcs
    exact ⟨_, RowF.of_cells hl (by simpa using hz) hcell⟩

/-- A slice of bools that came in, read. -/
theorem RowB_of_trod {H : Type} {enc : TypeId × Value → H} {P : Program} {w : World} {t e : TypeId} {fuel : Nat} {cs : List Value} {x : DataW H × List MemPlace} {a : Option Addr} {len cap : Nat}
    (ht : P.underlying t = some (.slice e)) (he : P.underlying e = some .bool) (hc : P.cellsOf e = 1) (h : DataW.trod enc P w 0 (fun _ => true) true fuel t cs = some x) (hcs : cs = [.slice a len cap]) :
    ∃ xs, RowB 0 w.heap.size w a len xs := by
  subst hcs
  rcases Deep.open_bools ht he hc h with ⟨hcs, _⟩ | ⟨y, l, c, B, hcs, _, hl, hm, hz, hcell⟩
  · simp at hcs
    obtain ⟨rfl, rfl, rfl⟩ := hcs
    exact ⟨[], rfl, .inl rfl⟩
  · simp at hcs
    obtain ⟨rfl, rfl, rfl⟩ := hcs
    refine ⟨_, RowF.of_cells (zs := (List.range cap).map B) hl (by simp) fun i hi => ?_⟩
    have hi' : i < cap := by simpa using hi
    rw [hcell i hi']; simp [List.getD, hi']

/-- A slice that came in is no longer than a slice may be. -/
theorem len_of_trod {H : Type} {enc : TypeId × Value → H} {P : Program} {w : World} {t e : TypeId} {d : DataW H} {p : List MemPlace} {a : Option Addr} {len cap : Nat}
    (ht : P.underlying t = some (.slice e)) (he : P.underlying e = some .bool) (hc : P.cellsOf e = 1) (h : DataW.Trod enc P w 0 (fun _ => true) true t (.slice a len cap) d p) : len ≤ 9223372036854775807 := by
  obtain ⟨fuel, hf⟩ := h
  rcases Deep.open_bools ht he hc hf with ⟨hcs, _⟩ | ⟨y, l, c, B, hcs, _, hl, hm, _, _⟩
  · have : len = 0 := by
      have := congrArg (·[0]?) hcs
      simp [Value.cells] at this; exact this.2.1
    omega
  · have : len = l ∧ cap = c := by
      have := congrArg (·[0]?) hcs
      simp [Value.cells] at this; exact this.2
    unfold maxLen at hm
    omega

end Go.Proofs.YtpfcpeljfgmjgaaDoor

namespace Go.Proofs.YtpfcpeljfgmjgaaDoor
open Go.RowKit

theorem tab_global : Tryd.prog.globalNamed "math/bits.deBruijn64tab" = some 0 := by kernel_rfl
theorem tab_type : (Tryd.prog.globals[0]?).map (·.type) = some 197 := by kernel_rfl

theorem tab_of_laid {W : World} (h : laidMetH Tryd.prog [("math/bits.deBruijn64tab", Rows.laid_math_bits_deBruijn64tab)] W) : Tab W := by
  rw [MakeChecks.laidMetH_plain _ _ _ (by kernel_rfl)] at h
  have h' : laidMet Tryd.prog [("math/bits.deBruijn64tab", Lib.tabData .u8 (Lib.deBruijn64tab.map fun n : Nat => (n : Int)))] W := h
  have ht := Lib.tabIs_of_head tab_global tab_type Tryd.underlying197 Tryd.underlying5 (by kernel_rfl) (by kernel_rfl) h'
  intro j hj
  rw [ht.cell tab_global j (by simpa using hj)]
  simp [List.getD, hj]

end Go.Proofs.YtpfcpeljfgmjgaaDoor

namespace Go.Proofs.YtpfcpeljfgmjgaaDoor
open Go.RowKit Go.WideShapes Go.ChangeShapes

/-- A slice of bytes that came in, read. -/
theorem RowY_of_trod {H : Type} {enc : TypeId × Value → H} {P : Program} {w : World} {t e : TypeId} {fuel : Nat} {cs : List Value} {x : DataW H × List MemPlace} {a : Option Addr} {len cap : Nat}
    (ht : P.underlying t = some (.slice e)) (he : P.underlying e = some (.int .u8)) (hc : P.cellsOf e = 1) (h : DataW.trod enc P w 0 (fun _ => true) true fuel t cs = some x) (hcs : cs = [.slice a len cap]) :
    ∃ xs, RowY 0 w.heap.size w a len xs ∧ ∀ i, i < len → xs.getD i 0 ≤ 255 := by
  subst hcs
  rcases open_ints ht he hc h with ⟨hcs, _⟩ | ⟨y, l, c, zs, hcs, _, hl, hm, hz, _, hcell, hwz⟩
  · simp at hcs
    obtain ⟨rfl, rfl, rfl⟩ := hcs
    exact ⟨[], ⟨rfl, .inl rfl⟩, fun i hi => absurd hi (by omega)⟩
  · simp at hcs
    obtain ⟨rfl, rfl, rfl⟩ := hcs
    have hz : zs.length = cap := by simpa using hz
    have hr := RowF.of_cells (f := Value.int .u8) (d := (0 : Int)) hl hz hcell
    have hb : ∀ i, i < len → 0 ≤ (zs.take len).getD i 0 ∧ (zs.take len).getD i 0 ≤ 255 := fun i hi => by
      have : (zs.take len).getD i 0 = zs[i]'(by omega) := by simp [List.getD, hi, show i < zs.length by omega]
      rw [this]
      exact bounds_u8 (hwz _ (List.getElem_mem _))
    obtain ⟨h1, h2⟩ := hr
    have e : ∀ i, i < len → ((zs.take len).map Int.toNat).getD i 0 = ((zs.take len).getD i 0).toNat := fun i hi => by
      simp [List.getD, hi, show i < zs.length by omega]
    refine ⟨(zs.take len).map Int.toNat, ⟨by simpa using h1, ?_⟩, fun i hi => ?_⟩
    · rcases h2 with h2 | ⟨b, off, e1, hb1, hh, hcl⟩
      · exact .inl h2
      · exact .inr ⟨b, off, e1, hb1, hh, fun i hi => by rw [hcl i hi, e i hi]; dsimp only; rw [Int.toNat_of_nonneg (hb i hi).1]⟩
    · rw [e i hi]
      have := hb i hi
      omega

theorem three_of {l : List Value} (h : (Array.mk l).size = 3) : ∃ c0 c1 c2, l = [c0, c1, c2] := by
  have h : l.length = 3 := h
  match l, h with
  | [c0, c1, c2], _ => exact ⟨c0, c1, c2, rfl⟩

/-- A slice of bytes that came in is no longer than a slice may be. -/
theorem leny_of_trod {H : Type} {enc : TypeId × Value → H} {P : Program} {w : World} {t e : TypeId} {fuel : Nat} {cs : List Value} {x : DataW H × List MemPlace} {a : Option Addr} {len cap : Nat}
    (ht : P.underlying t = some (.slice e)) (he : P.underlying e = some (.int .u8)) (hc : P.cellsOf e = 1) (h : DataW.trod enc P w 0 (fun _ => true) true fuel t cs = some x) (hcs : cs = [.slice a len cap]) : len ≤ 9223372036854775807 := by
  subst hcs
  rcases open_ints ht he hc h with ⟨hcs, _⟩ | ⟨y, l, c, zs, hcs, _, hl, hm, hz, _, hcell, hwz⟩
  · simp at hcs
    omega
  · simp at hcs
    unfold maxLen at hm
    omega

end Go.Proofs.YtpfcpeljfgmjgaaDoor

namespace Go.Proofs.YtpfcpeljfgmjgaaDoor
open Go.RowKit Go.WideShapes Go.ChangeShapes

theorem cap_of_trod {H : Type} {enc : TypeId × Value → H} {P : Program} {w : World} {t e : TypeId} {fuel : Nat} {cs : List Value} {x : DataW H × List MemPlace} {a : Option Addr} {len cap : Nat}
    (ht : P.underlying t = some (.slice e)) (he : P.underlying e = some (.int .i64)) (hc : P.cellsOf e = 1) (h : DataW.trod enc P w 0 (fun _ => true) true fuel t cs = some x) (hcs : cs = [.slice a len cap]) : len ≤ cap := by
  subst hcs
  rcases open_ints ht he hc h with ⟨hcs, _⟩ | ⟨y, l, c, zs, hcs, _, hl, _⟩
  · simp at hcs; omega
  · simp at hcs; omega

theorem nilz_of_trod {H : Type} {enc : TypeId × Value → H} {P : Program} {w : World} {t e : TypeId} {fuel : Nat} {cs : List Value} {x : DataW H × List MemPlace} {a : Option Addr} {len cap : Nat}
    (ht : P.underlying t = some (.slice e)) (he : P.underlying e = some (.int .i64)) (hc : P.cellsOf e = 1) (h : DataW.trod enc P w 0 (fun _ => true) true fuel t cs = some x) (hcs : cs = [.slice a len cap]) : a = none → len = 0 ∧ cap = 0 := by
  subst hcs
  rintro rfl
  rcases open_ints ht he hc h with ⟨hcs, _⟩ | ⟨y, l, c, zs, hcs, _, hl, _⟩
  · simp at hcs; omega
  · simp at hcs

theorem GridY_of_trod {H : Type} {enc : TypeId × Value → H} {P : Program} {w : World} {t e q : TypeId} {fuel : Nat} {cs : List Value} {x : DataW H × List MemPlace} {a : Option Addr} {len cap : Nat}
    (ht : P.underlying t = some (.slice e)) (he : P.underlying e = some (.slice q)) (hq : P.underlying q = some (.int .u8)) (ce : P.cellsOf e = 1) (cq : P.cellsOf q = 1)
    (h : DataW.trod enc P w 0 (fun _ => true) true fuel t cs = some x) (hcs : cs = [.slice a len cap]) : GridY w a len := by
  subst hcs
  rcases Deep.open_int_rows ht he hq ce cq h with ⟨hcs, _⟩ | ⟨y, l, c, A, L, C, Z, hcs, _, hl, hm, _, hrow⟩
  · simp at hcs
    exact .inl hcs.2.1
  · simp at hcs
    obtain ⟨rfl, rfl, rfl⟩ := hcs
    by_cases h0 : len = 0
    · exact .inl h0
    · obtain ⟨b, off, spot⟩ := y
      have hc := (hrow 0 (by omega)).1
      have hspot : spot = none := by simpa [Addr.add] using World.cell?_spot hc
      subst hspot
      refine .inr ⟨b, off, rfl, World.block_lt_of_cell? _ _ hc, fun k hk => ?_⟩
      obtain ⟨h1, h2, h3, h4, h5, h6, h7⟩ := hrow k (by omega)
      rw [Addr.add_lit] at h1
      have hb : ∀ i, i < L k → 0 ≤ ((Z k).take (L k)).getD i 0 ∧ ((Z k).take (L k)).getD i 0 ≤ 255 := fun i hi => by
        have : ((Z k).take (L k)).getD i 0 = (Z k)[i]'(by omega) := by simp [List.getD, hi, show i < (Z k).length by omega]
        rw [this]
        exact bounds_u8 (h5 _ (List.getElem_mem _))
      have e : ∀ i, i < L k → (((Z k).take (L k)).map Int.toNat).getD i 0 = (((Z k).take (L k)).getD i 0).toNat := fun i hi => by
        simp [List.getD, hi, show i < (Z k).length by omega]
      refine ⟨A k, L k, C k, ((Z k).take (L k)).map Int.toNat, h1, h2, ?_, fun i hi => ?_⟩
      · cases hA : A k with
        | none =>
          have hz : L k = 0 := by have := h6 hA; omega
          exact ⟨by simp; omega, .inl hz⟩
        | some y =>
          have hr := RowF.of_cells (f := Value.int .u8) (d := (0 : Int)) h2 h4 (fun i hi => (h7 y hA).2 i (by omega))
          obtain ⟨r1, r2⟩ := hr
          refine ⟨by simpa using r1, ?_⟩
          rcases r2 with r2 | ⟨b', o', e1, hb1, hh, hcl⟩
          · exact .inl r2
          · exact .inr ⟨b', o', e1, hb1, hh, fun i hi => by rw [hcl i hi, e i hi]; dsimp only; rw [Int.toNat_of_nonneg (hb i hi).1]⟩
      · rw [e i hi]
        have := hb i hi
        omega

end Go.Proofs.YtpfcpeljfgmjgaaDoor
