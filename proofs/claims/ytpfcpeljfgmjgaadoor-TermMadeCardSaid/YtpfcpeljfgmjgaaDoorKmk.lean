/- The law's Make: a type by numbers. -/
import Derived.Test.YtpfcpeljfgmjgaaDoorKcs
namespace Go.Proofs.YtpfcpeljfgmjgaaDoor
open Go.RowKit
set_option linter.unusedVariables false
set_option linter.unusedSimpArgs false

/-- Bytes behind a slice. -/
def BY (w : World) (a : Option Addr) (ns : List Nat) : Prop := ∀ (i x : Nat), ns[i]? = some x → x ≤ 255 ∧ ∃ g off, a = some ⟨g, off, none⟩ ∧ g < w.heap.size ∧ w.cell? ⟨g, off + i, none⟩ = some (.int .u8 (x : Int))
theorem BY.under {w w' : World} {a : Option Addr} {ns : List Nat} (h : BY w a ns) (hb : Below w.heap.size w w') : BY w' a ns := fun i x hx => by
  obtain ⟨h1, g, off, h2, h3, h4⟩ := h i x hx
  exact ⟨h1, g, off, h2, Nat.lt_of_lt_of_le h3 hb.size, (hb.cell (p := ⟨g, off + i, none⟩) h3).trans h4⟩
theorem Tryd.byElem17 : Tryd.prog.underlying 35 = some (.slice (Tryd.prog.elem 35)) := by kernel_rfl
theorem Tryd.bySize17 : (Tryd.prog.info? (Tryd.prog.elem 35)).map (fun i => i.size) = some 1 := by kernel_rfl
theorem BY.skip {w : World} {a : Option Addr} {ns : List Nat} {cap : Nat} (h : BY w a ns) (q : Nat) (hq : q ≤ ns.length) (hc : ns.length ≤ cap) :
    ∃ a', (∀ W, Sem.run Tryd.prog (Instr.slice 35 (.slice a ns.length cap) (some (.int .i64 (q : Int))) none none) W = .ok (.slice a' (ns.length - q) (cap - q)) W) ∧ BY w a' (ns.drop q) := by
  refine ⟨if cap = q then a else a.map (·.add q), fun W => ?_, fun i x hx => ?_⟩
  · rw [run_slice_l W 35 _ ns.length cap Tryd.byElem17 .i64 q (by omega) (by omega)]
    obtain ⟨j, hj, he⟩ := Option.map_eq_some_iff.1 Tryd.bySize17
    simp [sizeOf, typeInfo, hj, he, sliced, Result.andThen]
  · rw [List.getElem?_drop] at hx
    obtain ⟨h1, g, off, rfl, h3, h4⟩ := h (q + i) x hx
    have hl : q + i < ns.length := (List.getElem?_eq_some_iff.1 hx).1
    refine ⟨h1, g, off + q, ?_, h3, by rw [Nat.add_assoc]; exact h4⟩
    rw [if_neg (by omega)]; simp [Addr.add]
/-- One type in a row of one; two in a row of two. -/
theorem one_new {S : Nat → Prop} {w : World} {x : Ty} {c0 c1 c2 c3 : Value} (h : IsV S w (tyC x) (.agg #[c0, c1, c2, c3])) (hS : S w.heap.size) :
    InC S (w.alloc (.cells #[c0, c1, c2, c3] 47)) (.s [x].length 4 (tysC [x])) (.slice (some ⟨w.heap.size, 0, none⟩) 1 1) := by
  have h1 := h.cells
  simp only [Value.cells] at h1
  exact InC.of_new (us := [c0, c1, c2, c3]) (n := 1) (by rw [tysC_eq]; simpa using h1) hS (by rw [tysC_eq]; simp [tyC_len]) (by decide)
theorem two_new {S : Nat → Prop} {w : World} {x y : Ty} {c0 c1 c2 c3 d0 d1 d2 d3 : Value} (h : IsV S w (tyC x) (.agg #[c0, c1, c2, c3])) (k : IsV S w (tyC y) (.agg #[d0, d1, d2, d3])) (hS : S w.heap.size) :
    InC S (w.alloc (.cells #[c0, c1, c2, c3, d0, d1, d2, d3] 47)) (.s [x, y].length 4 (tysC [x, y])) (.slice (some ⟨w.heap.size, 0, none⟩) 2 2) := by
  have h1 := h.cells
  have h2 := k.cells
  simp only [Value.cells] at h1 h2
  exact InC.of_new (us := [c0, c1, c2, c3, d0, d1, d2, d3]) (n := 2) (by rw [tysC_eq]; simpa using h1.app h2) hS (by rw [tysC_eq]; simp [tyC_len]) (by decide)

def MKB (ns : List Nat) : Prop := ∀ (a : Option Addr) (cap v : Nat) (w : World), BY w a ns → ns.length ≤ cap → cap ≤ maxLen → 1 ≤ v → v ≤ 1000000 →
  Calls Tryd.prog 34 #[.slice a ns.length cap, .int .i64 (v : Int)] w fun e w' => ∃ u, e = .returned u ∧ IsV (New w) w' (tyC (makeT ns v)) u ∧ Below w.heap.size w w'
set_option maxRecDepth 100000 in
set_option maxHeartbeats 4000000 in
theorem mk_nil : MKB [] := by
  intro a cap v w h hc hm hv hv2
  rw [makeT_nil]
  show Calls Tryd.prog 34 #[.slice a 0 cap, .int .i64 (v : Int)] w _
  obtain ⟨W1, hW1⟩ : ∃ W1, w.alloc (.cells #[.int .i64 0, .int .i64 0, .string ⟨#[]⟩, .slice none 0 0] 47) = W1 := ⟨_, rfl⟩
  have hb1 : Below w.heap.size w W1 := hW1 ▸ (Below.refl _ w).alloc (Nat.le_refl _) _
  have hx1 : Box W1 w.heap.size 47 [.int .i64 0, .int .i64 0, .string ⟨#[]⟩, .slice none 0 0] := hW1 ▸ Box.new w 47 [.int .i64 0, .int .i64 0, .string ⟨#[]⟩, .slice none 0 0]
  have HB1 := Lib.hid hb1
  obtain ⟨_, _, _, _⟩ := four_cells hx1
  obtain ⟨_, _, _, _⟩ := four_frozen hx1
  have hl := hx1.lt
  clear hb1 hx1 h
  go_enter Tryd.func34, Tryd.ntmps34
  go_upto_region 1 with fail
  try rw [hW1]
  try clear hW1
  go_wp2_with fail
  refine bodyPost_ret (v := .agg #[.int .i64 2, .int .i64 0, .string ⟨#[73, 110, 116]⟩, .slice none 0 0]) (by simp only [results, Tryd.results34]; go_simp <;> rfl) rfl ?_
  exact ⟨_, rfl, IsV.of_ty (s := nInt) (.e _ _ _), below_set4t HB1.out (Nat.le_refl _)⟩

end Go.Proofs.YtpfcpeljfgmjgaaDoor
