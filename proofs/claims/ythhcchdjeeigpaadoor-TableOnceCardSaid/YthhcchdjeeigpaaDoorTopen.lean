/- How slices of bytes, slices of these, ints that came in as arguments are read. -/
import Derived.Test.YthhcchdjeeigpaaDoorOpen
import Derived.Deep.Matrix
namespace Go.Proofs.YthhcchdjeeigpaaDoor
open Go.RowKit Go.WideShapes Go.ChangeShapes
set_option linter.unusedVariables false

abbrev TRowY := RowF (fun n : Nat => Value.int .u8 (n : Int)) (0 : Nat)
/-- A slice of slices of bytes that came in. -/
def TGridY (W : World) (a : Option Addr) (n : Nat) : Prop :=
  n = 0 ∨ ∃ b off, a = some ⟨b, off, none⟩ ∧ b < W.heap.size ∧ ∀ i, i < n → ∃ A L C xs, W.cell? ⟨b, off + i, none⟩ = some (.slice A L C) ∧ L ≤ C ∧ TRowY 0 W.heap.size W A L xs ∧ ∀ j, j < L → xs.getD j 0 ≤ 255
/-- A slice of bytes that came in, read. -/
theorem TRowY_of_trod {H : Type} {enc : TypeId × Value → H} {P : Program} {w : World} {t e : TypeId} {fuel : Nat} {cs : List Value} {x : DataW H × List MemPlace} {a : Option Addr} {len cap : Nat}
    (ht : P.underlying t = some (.slice e)) (he : P.underlying e = some (.int .u8)) (hc : P.cellsOf e = 1) (h : DataW.trod enc P w 0 (fun _ => true) true fuel t cs = some x) (hcs : cs = [.slice a len cap]) :
    ∃ xs, TRowY 0 w.heap.size w a len xs ∧ ∀ i, i < len → xs.getD i 0 ≤ 255 := by
  subst hcs
  rcases open_ints ht he hc h with ⟨hcs, _⟩ | ⟨y, l, c, zs, hcs, _, hl, hm, hz, _, hcell, hwz⟩
  · simp at hcs
    obtain ⟨rfl, rfl, rfl⟩ := hcs
    exact ⟨[], ⟨rfl, .inl rfl⟩, fun i hi => absurd hi (by omega)⟩
  · simp at hcs
    obtain ⟨rfl, rfl, rfl⟩ := hcs
    have hz : zs.length = cap := by simpa using hz
    have hr := RowF.of_cells (f := Value.int .u8) (d := (0 : Int)) hl hz hcell
    have hb : ∀ i, i < len → 0 ≤ (zs.take len).getD i 0 ∧ (zs.take len).getD i 0 ≤ 255 := fun i hi => by
      have : (zs.take len).getD i 0 = zs[i]'(by omega) := by simp [List.getD, hi, show i < zs.length by omega]
      rw [this]
      exact bounds_u8 (hwz _ (List.getElem_mem _))
    obtain ⟨h1, h2⟩ := hr
    have e : ∀ i, i < len → ((zs.take len).map Int.toNat).getD i 0 = ((zs.take len).getD i 0).toNat := fun i hi => by
      simp [List.getD, hi, show i < zs.length by omega]
    refine ⟨(zs.take len).map Int.toNat, ⟨by simpa using h1, ?_⟩, fun i hi => ?_⟩
    · rcases h2 with h2 | ⟨b, off, e1, hb1, hh, hcl⟩
      · exact .inl h2
      · exact .inr ⟨b, off, e1, hb1, hh, fun i hi => by rw [hcl i hi, e i hi]; dsimp only; rw [Int.toNat_of_nonneg (hb i hi).1]⟩
    · rw [e i hi]
      have := hb i hi
      omega
theorem tthree_of {l : List Value} (h : (Array.mk l).size = 3) : ∃ c0 c1 c2, l = [c0, c1, c2] := by
  have h : l.length = 3 := h
  match l, h with
  | [c0, c1, c2], _ => exact ⟨c0, c1, c2, rfl⟩
/-- A slice of bytes that came in is no longer than a slice may be. -/
theorem tleny_of_trod {H : Type} {enc : TypeId × Value → H} {P : Program} {w : World} {t e : TypeId} {fuel : Nat} {cs : List Value} {x : DataW H × List MemPlace} {a : Option Addr} {len cap : Nat}
    (ht : P.underlying t = some (.slice e)) (he : P.underlying e = some (.int .u8)) (hc : P.cellsOf e = 1) (h : DataW.trod enc P w 0 (fun _ => true) true fuel t cs = some x) (hcs : cs = [.slice a len cap]) : len ≤ 9223372036854775807 := by
  subst hcs
  rcases open_ints ht he hc h with ⟨hcs, _⟩ | ⟨y, l, c, zs, hcs, _, hl, hm, hz, _, hcell, hwz⟩
  · simp at hcs
    omega
  · simp at hcs
    unfold maxLen at hm
    omega
theorem tcap_of_trod {H : Type} {enc : TypeId × Value → H} {P : Program} {w : World} {t e : TypeId} {fuel : Nat} {cs : List Value} {x : DataW H × List MemPlace} {a : Option Addr} {len cap : Nat}
    (ht : P.underlying t = some (.slice e)) (he : P.underlying e = some (.int .i64)) (hc : P.cellsOf e = 1) (h : DataW.trod enc P w 0 (fun _ => true) true fuel t cs = some x) (hcs : cs = [.slice a len cap]) : len ≤ cap := by
  subst hcs
  rcases open_ints ht he hc h with ⟨hcs, _⟩ | ⟨y, l, c, zs, hcs, _, hl, _⟩
  · simp at hcs; omega
  · simp at hcs; omega
theorem tnilz_of_trod {H : Type} {enc : TypeId × Value → H} {P : Program} {w : World} {t e : TypeId} {fuel : Nat} {cs : List Value} {x : DataW H × List MemPlace} {a : Option Addr} {len cap : Nat}
    (ht : P.underlying t = some (.slice e)) (he : P.underlying e = some (.int .i64)) (hc : P.cellsOf e = 1) (h : DataW.trod enc P w 0 (fun _ => true) true fuel t cs = some x) (hcs : cs = [.slice a len cap]) : a = none → len = 0 ∧ cap = 0 := by
  subst hcs
  rintro rfl
  rcases open_ints ht he hc h with ⟨hcs, _⟩ | ⟨y, l, c, zs, hcs, _, hl, _⟩
  · simp at hcs; omega
  · simp at hcs
theorem TGridY_of_trod {H : Type} {enc : TypeId × Value → H} {P : Program} {w : World} {t e q : TypeId} {fuel : Nat} {cs : List Value} {x : DataW H × List MemPlace} {a : Option Addr} {len cap : Nat}
    (ht : P.underlying t = some (.slice e)) (he : P.underlying e = some (.slice q)) (hq : P.underlying q = some (.int .u8)) (ce : P.cellsOf e = 1) (cq : P.cellsOf q = 1)
    (h : DataW.trod enc P w 0 (fun _ => true) true fuel t cs = some x) (hcs : cs = [.slice a len cap]) : TGridY w a len := by
  subst hcs
  rcases Deep.open_int_rows ht he hq ce cq h with ⟨hcs, _⟩ | ⟨y, l, c, A, L, C, Z, hcs, _, hl, hm, _, hrow⟩
  · simp at hcs
    exact .inl hcs.2.1
  · simp at hcs
    obtain ⟨rfl, rfl, rfl⟩ := hcs
    by_cases h0 : len = 0
    · exact .inl h0
    · obtain ⟨b, off, spot⟩ := y
      have hc := (hrow 0 (by omega)).1
      have hspot : spot = none := by simpa [Addr.add] using World.cell?_spot hc
      subst hspot
      refine .inr ⟨b, off, rfl, World.block_lt_of_cell? _ _ hc, fun k hk => ?_⟩
      obtain ⟨h1, h2, h3, h4, h5, h6, h7⟩ := hrow k (by omega)
      rw [Addr.add_lit] at h1
      have hb : ∀ i, i < L k → 0 ≤ ((Z k).take (L k)).getD i 0 ∧ ((Z k).take (L k)).getD i 0 ≤ 255 := fun i hi => by
        have : ((Z k).take (L k)).getD i 0 = (Z k)[i]'(by omega) := by simp [List.getD, hi, show i < (Z k).length by omega]
        rw [this]
        exact bounds_u8 (h5 _ (List.getElem_mem _))
      have e : ∀ i, i < L k → (((Z k).take (L k)).map Int.toNat).getD i 0 = (((Z k).take (L k)).getD i 0).toNat := fun i hi => by
        simp [List.getD, hi, show i < (Z k).length by omega]
      refine ⟨A k, L k, C k, ((Z k).take (L k)).map Int.toNat, h1, h2, ?_, fun i hi => ?_⟩
      · cases hA : A k with
        | none =>
          have hz : L k = 0 := by have := h6 hA; omega
          exact ⟨by simp; omega, .inl hz⟩
        | some y =>
          have hr := RowF.of_cells (f := Value.int .u8) (d := (0 : Int)) h2 h4 (fun i hi => (h7 y hA).2 i (by omega))
          obtain ⟨r1, r2⟩ := hr
          refine ⟨by simpa using r1, ?_⟩
          rcases r2 with r2 | ⟨b', o', e1, hb1, hh, hcl⟩
          · exact .inl r2
          · exact .inr ⟨b', o', e1, hb1, hh, fun i hi => by rw [hcl i hi, e i hi]; dsimp only; rw [Int.toNat_of_nonneg (hb i hi).1]⟩
      · rw [e i hi]
        have := hb i hi
        omega

end Go.Proofs.YthhcchdjeeigpaaDoor
