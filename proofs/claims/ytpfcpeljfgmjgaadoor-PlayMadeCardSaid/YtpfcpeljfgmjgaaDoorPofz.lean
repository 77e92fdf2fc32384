/- Contract of package play's chooser. -/
import Derived.Test.YtpfcpeljfgmjgaaDoorZpa
import Derived.Test.YtpfcpeljfgmjgaaDoorPgamez
import Derived.Test.YtpfcpeljfgmjgaaDoorZpp
import Derived.Deep.RegionHeld3
namespace Go.Proofs.YtpfcpeljfgmjgaaDoor
open Go.RowKit
set_option linter.unusedVariables false
set_option linter.unusedSimpArgs false

/-- A cut of a slice: so many are skipped. -/
theorem run_skip {P : Program} {t : TypeId} (ht : P.underlying t = some (.slice (P.elem t))) (hs : (P.info? (P.elem t)).map (fun i => i.size) = some 1) (b off len cap l : Nat) (hl : l ≤ len) (hc : len ≤ cap) :
    ∃ a', (l < len → a' = some ⟨b, off + l, none⟩) ∧ ∀ w, (Instr.slice t (.slice (some ⟨b, off, none⟩) len cap) (some (.int .i64 (l : Int))) none none).run P w = .ok (.slice a' (len - l) (cap - l)) w := by
  refine ⟨if cap = l then some ⟨b, off, none⟩ else some ⟨b, off + l, none⟩, fun h => by rw [if_neg (by omega)], fun w => ?_⟩
  rw [run_slice_l w t _ len cap ht .i64 l (by omega) (by omega)]
  obtain ⟨i, hi, he⟩ := Option.map_eq_some_iff.1 hs
  simp [sizeOf, typeInfo, hi, he, sliced, Result.andThen]
  split <;> simp_all [Addr.add]
theorem RowF.skip {lo hi : Nat} {w : World} {b off len : Nat} {x : Int} {xs : List Int} (h : Row lo hi w (some ⟨b, off, none⟩) (len + 1) (x :: xs)) (a' : Option Addr) (ha : 0 < len → a' = some ⟨b, off + 1, none⟩) : Row lo hi w a' len xs := by
  obtain ⟨h1, h2⟩ := h
  refine ⟨by simpa using h1, ?_⟩
  by_cases hlt : 0 < len
  · rcases h2 with h0 | ⟨b', o', e, hl, hh, hc⟩
    · omega
    · cases e
      refine .inr ⟨b, off + 1, ha hlt, hl, hh, fun i hi => ?_⟩
      rw [Nat.add_assoc, Nat.add_comm 1 i, hc (i + 1) (by omega)]
      simp [List.getD]
  · exact .inl (by omega)

theorem run_from0 {P : Program} {t : TypeId} (ht : P.underlying t = some (.slice (P.elem t))) (hs : (P.info? (P.elem t)).map (fun i => i.size) = some 1) (a : Option Addr) (cap : Nat) :
    ∃ a', ∀ w, Sem.run P (Instr.slice t (.slice a 0 cap) (some (.int .i64 0)) none none) w = .ok (.slice a' 0 cap) w := by
  refine ⟨if cap = 0 then a else a.map (·.add 0), fun w => ?_⟩
  rw [run_slice_l w t _ 0 cap ht .i64 0 (by omega) (by omega)]
  obtain ⟨i, hi, he⟩ := Option.map_eq_some_iff.1 hs
  simp [sizeOf, typeInfo, hi, sliced, Result.andThen]
theorem run_head0 {P : Program} {t : TypeId} (ht : P.underlying t = some (.slice (P.elem t))) (hs : (P.info? (P.elem t)).map (fun i => i.size) = some 1) (a : Option Addr) (cap : Nat) :
    ∃ a', ∀ w, Sem.run P (Instr.slice t (.slice a 0 cap) none (some (.int .i64 0)) none) w = .ok (.slice a' 0 cap) w := by
  refine ⟨if cap = 0 then a else a.map (·.add 0), fun w => ?_⟩
  rw [run_slice_h w t _ 0 cap ht .i64 0 (by omega) (by omega)]
  obtain ⟨i, hi, he⟩ := Option.map_eq_some_iff.1 hs
  simp [sizeOf, typeInfo, hi, sliced, Result.andThen]
theorem RowF.one {lo hi : Nat} {w : World} {a : Option Addr} {len : Nat} {x : Int} {xs : List Int} (h : Row lo hi w a (len + 1) (x :: xs)) : Row lo hi w a 1 [x] := by
  obtain ⟨h1, h2⟩ := h
  obtain ⟨b, off, rfl, hl, hh, hc⟩ := h2.resolve_left (by omega)
  refine ⟨rfl, .inr ⟨b, off, rfl, hl, hh, fun i hi => ?_⟩⟩
  obtain rfl : i = 0 := by omega
  exact hc 0 (by omega)
end Go.Proofs.YtpfcpeljfgmjgaaDoor
