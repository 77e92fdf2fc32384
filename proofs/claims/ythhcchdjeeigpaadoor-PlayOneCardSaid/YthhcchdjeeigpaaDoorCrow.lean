/- Words for slices of numbers not below 0 that the call made; slices.Clone. -/
import Derived.Test.YthhcchdjeeigpaaDoorTwo
import Derived.Test.YthhcchdjeeigpaaDoorCsmall
import Derived.Deep.AppendLies
namespace Go.Proofs.YthhcchdjeeigpaaDoor
open Go.RowKit
set_option linter.unusedVariables false

theorem lt_succ_all {P : Nat → Prop} {k : Nat} (h : ∀ i, i < k → P i) (hk : P k) : ∀ i, i < k + 1 → P i := by
  intro i hi
  rcases Nat.lt_or_ge i k with h1 | h1
  · exact h i h1
  · obtain rfl : i = k := by omega
    exact hk

def intsOf (p : List Nat) : List Value := p.map fun n : Nat => Value.int .i64 (n : Int)
theorem intsOf_length (p : List Nat) : (intsOf p).length = p.length := by simp [intsOf]
theorem intsOf_get {p : List Nat} {i : Nat} (h : i < p.length) : (intsOf p)[i]? = some (.int .i64 (el p i : Nat)) := by
  unfold intsOf el; simp [h]
theorem intsOf_set (p : List Nat) (i v : Nat) : (intsOf p).set i (.int .i64 (v : Int)) = intsOf (p.set i v) := by
  unfold intsOf; rw [List.map_set]
theorem RowF.owned {w : World} {base e : Nat} {v : Value} {n : Nat} {p : List Nat} (h : w.ownsRow base e 1 v n (intsOf p)) (hl : p.length = n) : ∃ a c, v = .slice a n c ∧ RowN base w.heap.size w a n p ∧ (a = none → c = 0) := by
  subst hl
  obtain ⟨a, c, h1, h2⟩ := RowF.of_owns (f := fun n : Nat => Value.int .i64 (n : Int)) (d := 0) h
  refine ⟨a, c, h1, h2, fun ha => ?_⟩
  rcases h.2 with ⟨e, _⟩ | ⟨g, cap, cur, e, _⟩
  · rw [h1] at e; simp at e; exact e.2.2
  · rw [h1, ha] at e; cases e

/-- Block g holds these numbers from its first cell on, none of them frozen. -/
def Own (w : World) (g : Nat) (p : List Nat) : Prop := g < w.heap.size ∧ ∀ i, i < p.length → w.cell? ⟨g, i, none⟩ = some (.int .i64 (el p i : Nat)) ∧ w.frozen? ⟨g, i, none⟩ = false
section
variable {w w' : World} {g : Nat} {p : List Nat}
theorem Own.agree (h : Own w g p) (hb : w'.heap[g]? = w.heap[g]?) (hs : w.heap.size ≤ w'.heap.size) : Own w' g p :=
  ⟨Nat.lt_of_lt_of_le h.1 hs, fun i hi => ⟨(World.cell?_of_block hb).trans (h.2 i hi).1, (World.frozen?_of_block hb).trans (h.2 i hi).2⟩⟩
theorem Own.alloc (h : Own w g p) (o : Obj) : Own (w.alloc o) g p := h.agree (Below.heap_alloc w o g h.1) (by simp)
theorem Own.setOther (h : Own w g p) {a : Addr} (ha : g ≠ a.block) (u : Value) : Own (w.setCell a u) g p := h.agree (Below.heap_setCell w a u g ha) (by simp)
theorem Own.below (h : Own w g p) {B : Nat} (hb : Below B w w') (hg : g < B) : Own w' g p := h.agree (hb.block g hg) hb.size
theorem Own.drewN (h : Own w g p) (n : Nat) : Own (w.drewN n) g p := h
theorem Own.put (h : Own w g p) {i v : Nat} (hi : i < p.length) : Own (w.setCell ⟨g, i, none⟩ (.int .i64 (v : Int))) g (p.set i v) := by
  refine ⟨by simpa using h.1, fun j hj => ?_⟩
  rw [List.length_set] at hj
  obtain ⟨h1, h2⟩ := h.2 j hj
  obtain ⟨h3, h4⟩ := h.2 i hi
  refine ⟨?_, by simpa using h2⟩
  by_cases e : i = j
  · subst e
    rw [el_set_self hi]
    exact World.cell?_setCell_same w _ _ h1
  · rw [el_set_other e]
    exact (World.cell?_setCell_other w _ _ _ (fun h => e (by cases h; rfl))).trans h1
theorem Own.row (h : Own w g p) {lo hi n : Nat} (hl : p.length = n) (h1 : lo ≤ g) (h2 : g < hi) : RowN lo hi w (some ⟨g, 0, none⟩) n p :=
  ⟨hl, .inr ⟨g, 0, rfl, h1, h2, fun i hi => by rw [Nat.zero_add]; exact (h.2 i (by omega)).1⟩⟩
end

theorem own_of_owns {w : World} {base e n : Nat} {v : Value} {p : List Nat} (h : w.ownsRow base e 1 v n (intsOf p)) (hl : p.length = n) (hn : 0 < n) : ∃ g c, v = .slice (some ⟨g, 0, none⟩) n c ∧ base ≤ g ∧ Own w g p := by
  obtain ⟨g, c, rfl, h1, h2⟩ := h.form hn
  refine ⟨g, c, rfl, h1, h2, fun i hi => ⟨?_, h.frozenAt i⟩⟩
  rw [h.cellAt i (by omega), intsOf_get hi]

theorem clone_own (a : Option Addr) (la ca : Nat) (p : List Nat) (w : World) {lo hi : Nat} (hx : RowN lo hi w a la p) (hhi : hi ≤ w.heap.size) (hn : 0 < la) (hm : la ≤ 1000000) :
    Calls Tryd.prog 73 #[.slice a la ca] w fun e w' => ∃ g c, e = .returned (.slice (some ⟨g, 0, none⟩) la c) ∧ w.heap.size ≤ g ∧ Own w' g p ∧ Below w.heap.size w w' := by
  have hne := fun (w : World) (a : Option Addr) (n c : Nat) => Lib.run_eql_slice_nil (P := Tryd.prog) w 22 3 a n c 0 0 Tryd.underlying22
  cases a with
  | none => have h0 : la = 0 := hx.nil_len; omega
  | some a =>
    obtain ⟨i0, hi0, hz0, hz1, hz2⟩ := info_parts Tryd.info3
    have hb0 : Below w.heap.size w (w.alloc (.cells #[] 3)) := (Below.refl _ _).alloc (Nat.le_refl _) _
    go_enter Tryd.func73, Tryd.ntmps73
    go_wp2_with (at_builtin; refine wpList_append_own _ rfl _ _ 22 rfl w.heap.size 3 i0 (.int .i64 0) 1 8 Tryd.underlying22 hi0 hz0 hz1 hz2 rfl (by decide) _ 0 [] rfl ?c0 a la ca (intsOf p) rfl ?c1 ?c2 ?c3 ?c4 ?c5 ?c6 ?_)
    case c0 => exact World.ownsRow_made w #[] 0 (Nat.le_refl _) (by decide) rfl
    case c1 => simp [intsOf, hx.1]
    case c2 => exact (hx.alloc hhi _).news
    case c3 => intro u hu; simp [intsOf] at hu; obtain ⟨n, _, rfl⟩ := hu; rfl
    case c4 => unfold maxLen; omega
    case c5 => omega
    case c6 => simp
    intro v' w1 hown hgr hnn
    have hb1 : Below w.heap.size w w1 := hb0.grown hgr (by simp) (by rintro k hk; cases hk; exact Nat.le_refl _)
    obtain ⟨g, c, rfl, hg, ho⟩ := own_of_owns (p := p) (n := 0 + la) (by simpa using hown) (by rw [hx.1]; omega) (by omega)
    clear hgr hnn hb0 hown
    go_wp2
    go_ret
    rw [Nat.zero_add]
    exact ⟨_, _, rfl, hg, ho, hb1⟩

end Go.Proofs.YthhcchdjeeigpaaDoor
