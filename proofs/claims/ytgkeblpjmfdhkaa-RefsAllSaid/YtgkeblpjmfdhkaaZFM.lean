/- Package parse's reader: let. Package parse's reader: choice. Package parse's reader: alt. A whole struct stored into a block of its own: the world behind it is opaque. No program. Package parse's reader: cases. Package parse's reader: app. Package parse's reader: expr; an expression, a type, however deep. -/
import Derived.Test.YtgkeblpjmfdhkaaZEM
import Derived.Test.YtgkeblpjmfdhkaaZDM
import Derived.Test.YtgkeblpjmfdhkaaZCM
import Derived.Deep.MidRow
namespace Go.Proofs.Ytgkeblpjmfdhkaa
open Go.RowKit Go.Maps
set_option linter.unusedVariables false
set_option linter.unusedSimpArgs false

theorem IsV.bd {S : Nat → Prop} {w : World} {v : Value} {b : Bd} (h : IsV S w (bdC b) v) : ∃ (k p n : Int) (s : By) (a a' : Option Addr) (m m' cp cp' : Nat), v = .agg #[.string (strB b.s), .int .i64 b.p, .int .i64 k, .int .i64 p, .string (strB s), .int .i64 n, .slice a m cp, .slice a' m' cp'] ∧ IsV S w (exC b.body) (.agg #[.int .i64 k, .int .i64 p, .string (strB s), .int .i64 n, .slice a m cp, .slice a' m' cp']) := by
  obtain ⟨us, rfl, h⟩ := h
  unfold bdC at h
  obtain ⟨u0, r0, rfl, l0⟩ := three_cons (n := (exC b.body).length + 1) (by simpa using h.1)
  obtain ⟨u1, r1, rfl, l1⟩ := three_cons (n := (exC b.body).length) l0
  obtain rfl := h.head.val
  obtain rfl := h.tail.head.val
  have h2 : IsV S w (exC b.body) (.agg r1.toArray) := ⟨r1, rfl, h.tail.tail⟩
  obtain ⟨k, q, n, s2, a2, a3, m2, m3, c2, c3, hv, _⟩ := h2.exs
  have e : r1 = [.int .i64 k, .int .i64 q, .string (strB s2), .int .i64 n, .slice a2 m2 c2, .slice a3 m3 c3] := by
    have := congrArg (fun v => v.cells.toList) hv
    simpa [Value.cells] using this
  subst e
  exact ⟨k, q, n, s2, a2, a3, m2, m3, c2, c3, rfl, h2⟩
theorem Box.set6o {w : World} {b B : Nat} {t : TypeId} {cs : List Value} (h : Box w b t cs) (hn : b ≠ B) (v0 v1 v2 v3 v4 v5 : Value) : Box ((((((w.setCell ⟨B, 0, none⟩ v0).setCell ⟨B, 1, none⟩ v1).setCell ⟨B, 2, none⟩ v2).setCell ⟨B, 3, none⟩ v3).setCell ⟨B, 4, none⟩ v4).setCell ⟨B, 5, none⟩ v5) b t cs :=
  (((((h.setOther (a := ⟨B, 0, none⟩) hn v0).setOther (a := ⟨B, 1, none⟩) hn v1).setOther (a := ⟨B, 2, none⟩) hn v2).setOther (a := ⟨B, 3, none⟩) hn v3).setOther (a := ⟨B, 4, none⟩) hn v4).setOther (a := ⟨B, 5, none⟩) hn v5
end Go.Proofs.Ytgkeblpjmfdhkaa

namespace Go.Proofs.Ytgkeblpjmfdhkaa
open Go.RowKit Go.Maps
set_option linter.unusedVariables false
set_option linter.unusedSimpArgs false

theorem InC.three {S : Nat → Prop} {w : World} {k : Nat} {t : TypeId} {cs ds es : List Cl} {us vs zs : List Value} (h1 : IsV S w cs (.agg us.toArray)) (h2 : IsV S w ds (.agg vs.toArray)) (h3 : IsV S w es (.agg zs.toArray)) (hS : S w.heap.size) (hl1 : cs.length = k) (hl2 : ds.length = k) (hl3 : es.length = k) {xs : List Value} (hx : xs = us ++ (vs ++ zs)) :
    InC S (w.alloc (.cells xs.toArray t)) (.s 3 k (cs ++ (ds ++ es))) (.slice (some ⟨w.heap.size, 0, none⟩) 3 3) := by
  subst hx
  refine InC.of_new (InS.app (by simpa [Value.cells] using h1.cells) (InS.app (by simpa [Value.cells] using h2.cells) (by simpa [Value.cells] using h3.cells))) hS (by rw [List.length_append, List.length_append, hl1, hl2, hl3]; omega) (by decide)

end Go.Proofs.Ytgkeblpjmfdhkaa

namespace Go.Proofs.Ytgkeblpjmfdhkaa
open Go.RowKit Go.Maps
set_option linter.unusedVariables false
set_option linter.unusedSimpArgs false

theorem Box.set9o {w : World} {b B : Nat} {t : TypeId} {cs : List Value} (h : Box w b t cs) (hn : b ≠ B) (v0 v1 v2 v3 v4 v5 v6 v7 v8 : Value) : Box (((((((((w.setCell ⟨B, 0, none⟩ v0).setCell ⟨B, 1, none⟩ v1).setCell ⟨B, 2, none⟩ v2).setCell ⟨B, 3, none⟩ v3).setCell ⟨B, 4, none⟩ v4).setCell ⟨B, 5, none⟩ v5).setCell ⟨B, 6, none⟩ v6).setCell ⟨B, 7, none⟩ v7).setCell ⟨B, 8, none⟩ v8) b t cs := (((((((((h.setOther (a := ⟨B, 0, none⟩) hn v0).setOther (a := ⟨B, 1, none⟩) hn v1).setOther (a := ⟨B, 2, none⟩) hn v2).setOther (a := ⟨B, 3, none⟩) hn v3).setOther (a := ⟨B, 4, none⟩) hn v4).setOther (a := ⟨B, 5, none⟩) hn v5).setOther (a := ⟨B, 6, none⟩) hn v6).setOther (a := ⟨B, 7, none⟩) hn v7).setOther (a := ⟨B, 8, none⟩) hn v8)
theorem nine_cells {w : World} {b : Nat} {t : TypeId} {c0 c1 c2 c3 c4 c5 c6 c7 c8 : Value} (h : Box w b t [c0, c1, c2, c3, c4, c5, c6, c7, c8]) : w.cell? ⟨b, 0, none⟩ = some c0 ∧ w.cell? ⟨b, 1, none⟩ = some c1 ∧ w.cell? ⟨b, 2, none⟩ = some c2 ∧ w.cell? ⟨b, 3, none⟩ = some c3 ∧ w.cell? ⟨b, 4, none⟩ = some c4 ∧ w.cell? ⟨b, 5, none⟩ = some c5 ∧ w.cell? ⟨b, 6, none⟩ = some c6 ∧ w.cell? ⟨b, 7, none⟩ = some c7 ∧ w.cell? ⟨b, 8, none⟩ = some c8 := ⟨h.cell 0, h.cell 1, h.cell 2, h.cell 3, h.cell 4, h.cell 5, h.cell 6, h.cell 7, h.cell 8⟩
theorem nine_frozen {w : World} {b : Nat} {t : TypeId} {c0 c1 c2 c3 c4 c5 c6 c7 c8 : Value} (h : Box w b t [c0, c1, c2, c3, c4, c5, c6, c7, c8]) : w.frozen? ⟨b, 0, none⟩ = false ∧ w.frozen? ⟨b, 1, none⟩ = false ∧ w.frozen? ⟨b, 2, none⟩ = false ∧ w.frozen? ⟨b, 3, none⟩ = false ∧ w.frozen? ⟨b, 4, none⟩ = false ∧ w.frozen? ⟨b, 5, none⟩ = false ∧ w.frozen? ⟨b, 6, none⟩ = false ∧ w.frozen? ⟨b, 7, none⟩ = false ∧ w.frozen? ⟨b, 8, none⟩ = false := ⟨h.frozen 0, h.frozen 1, h.frozen 2, h.frozen 3, h.frozen 4, h.frozen 5, h.frozen 6, h.frozen 7, h.frozen 8⟩
theorem c12 {w : World} {b : Nat} {t : TypeId} {c0 c1 c2 c3 : Value} (h : Box w b t [c0, c1, c2, c3]) : w.cell? ⟨b, 1, none⟩ = some c1 ∧ w.cell? ⟨b, 2, none⟩ = some c2 := ⟨h.cell 1, h.cell 2⟩
theorem IsV.of_al {S : Nat → Prop} {w : World} {p : Int} {s : By} {names : List By} {x : Ex} {nv : Value} {us : List Value} (hn : InC S w (.s names.length 1 (strsC names)) nv) (h : IsV S w (exC x) (.agg us.toArray)) {vs : List Value} (hv : vs = .int .i64 p :: .string (strB s) :: nv :: us) : IsV S w (alC (.mk p s names x)) (.agg vs.toArray) := by
  subst hv
  exact ⟨_, rfl, InS.cons (.v _) (InS.cons (.v _) (InS.cons hn (by simpa [Value.cells] using h.cells)))⟩

end Go.Proofs.Ytgkeblpjmfdhkaa

namespace Go.Proofs.Ytgkeblpjmfdhkaa
open Go.RowKit
set_option linter.unusedVariables false
set_option linter.unusedSimpArgs false

theorem Nb.of_two {g : Nat} {w w' : World} (h : Two g g w w') : Nb g w w' := ⟨h.os, h.tape, h.output, h.size, fun k hk hn => h.block k hk hn hn⟩
end Go.Proofs.Ytgkeblpjmfdhkaa

namespace Go.Proofs.Ytgkeblpjmfdhkaa
open Go.RowKit Go.Maps
set_option linter.unusedVariables false
set_option linter.unusedSimpArgs false

theorem Try.exprSize : (Try.prog.info? 43).map (·.size) = some 6 := by kernel_rfl
end Go.Proofs.Ytgkeblpjmfdhkaa

namespace Go.Proofs.Ytgkeblpjmfdhkaa
open Go.RowKit Go.Maps
set_option linter.unusedVariables false
set_option linter.unusedSimpArgs false

theorem appL_go {En : Nat} {X : PS → Ex × PS} {f : Nat} {e : Ex} {τ : PS} (hf : τ.ts.length ≤ f) (h2 : τ.seesAtom = true) (hd : Dec X) :
    ∃ f', appL En X f e τ = appL En X f' (.mk 5 e.at [] 0 [e, (atomF En X τ).1] []) (atomF En X τ).2 ∧ (atomF En X τ).2.ts.length ≤ f' ∧ (atomF En X τ).2.ts.length < τ.ts.length := by
  have h3 := atomF_lt (En := En) hd h2
  obtain ⟨f', rfl⟩ : ∃ f', f = f' + 1 := ⟨f - 1, by omega⟩
  exact ⟨f', by rw [appL, if_pos h2], by omega, h3⟩
theorem appL_end {En : Nat} {X : PS → Ex × PS} {f : Nat} {e : Ex} {τ : PS} (h : τ.seesAtom = false) : appL En X f e τ = (e, τ) := by
  cases f with
  | zero => rfl
  | succ f => rw [appL, if_neg (by rw [h]; decide)]
/-- What lies under app's own variable. -/
def AV (W1 : World) (B : Nat) (w : World) (e : Ex) (us : List Value) : Prop := Box w B 43 us ∧ IsV (fun b => New W1 b ∧ b ≠ B) w (exC e) (.agg us.toArray)
theorem AV.out {W1 w w' : World} {B R : Nat} {e : Ex} {us : List Value} (h : AV W1 B w e us) (ho : Out (fun b => b = R) w w') (hR : R < W1.heap.size) (hB : W1.heap.size ≤ B) : AV W1 B w' e us :=
  ⟨ho.box h.1 (by show ¬ _; omega), h.2.out ho fun b _ hb q => by have := hb.1; unfold New at this; omega⟩
theorem AV.shape {W1 w : World} {B : Nat} {e : Ex} {us : List Value} (h : AV W1 B w e us) : ∃ (k p n : Int) (s : By) (a a' : Option Addr) (m m' cp cp' : Nat), us = [.int .i64 k, .int .i64 p, .string (strB s), .int .i64 n, .slice a m cp, .slice a' m' cp'] ∧ e.at = p := by
  obtain ⟨k, p, n, s, a, a', m, m', cp, cp', hv, hp⟩ := h.2.exs
  refine ⟨k, p, n, s, a, a', m, m', cp, cp', ?_, hp⟩
  have := congrArg (fun v => v.cells.toList) hv
  simpa [Value.cells] using this

end Go.Proofs.Ytgkeblpjmfdhkaa

namespace Go.Proofs.Ytgkeblpjmfdhkaa
open Go.RowKit Go.Maps
set_option linter.unusedVariables false
set_option linter.unusedSimpArgs false

end Go.Proofs.Ytgkeblpjmfdhkaa
