/- Words for Of of package part: pairs read in memory; keys that are pairs; what the map of united pairs says. -/
import Derived.Test.YtodkdjgpmfegcaaRoot
import Derived.Maps.OwnSet
import Derived.WideKeyPair
namespace Go.Proofs.Ytodkdjgpmfegcaa
open Go.RowKit Go.Maps
open Go.WideMaps (ArrKey keyOf_pair)
set_option linter.unusedVariables false

/-- A slice of pairs of ints reads as these. -/
def RowP (lo hi : Nat) (w : World) (a : Option Addr) (n : Nat) (ps : List (Int × Int)) : Prop :=
  ps.length = n ∧ (n = 0 ∨ ∃ b off, a = some ⟨b, off, none⟩ ∧ lo ≤ b ∧ b < hi ∧ ∀ i, i < n → w.cell? ⟨b, off + i * 2, none⟩ = some (.int .i64 (ps.getD i (0, 0)).1) ∧ w.cell? ⟨b, off + i * 2 + 1, none⟩ = some (.int .i64 (ps.getD i (0, 0)).2))

section
variable {lo hi lo' hi' : Nat} {w w' : World} {a : Option Addr} {n : Nat} {ps : List (Int × Int)}
theorem RowP.agree (h : RowP lo hi w a n ps) (hb : ∀ k, lo ≤ k → k < hi → w'.heap[k]? = w.heap[k]?) : RowP lo hi w' a n ps := by
  obtain ⟨h1, h2 | ⟨b, off, rfl, hl, hh, hc⟩⟩ := h
  · exact ⟨h1, .inl h2⟩
  · exact ⟨h1, .inr ⟨b, off, rfl, hl, hh, fun i hi => ⟨(World.cell?_of_block (hb b hl hh)).trans (hc i hi).1, (World.cell?_of_block (hb b hl hh)).trans (hc i hi).2⟩⟩⟩
theorem RowP.below (h : RowP lo hi w a n ps) {B : Nat} (hb : Below B w w') (hh : hi ≤ B) : RowP lo hi w' a n ps := h.agree fun k _ hk => hb.block k (by omega)
theorem RowP.mono (h : RowP lo hi w a n ps) (hl : lo' ≤ lo) (hh : hi ≤ hi') : RowP lo' hi' w a n ps := by
  obtain ⟨h1, h2 | ⟨b, off, rfl, hlb, hbb, hc⟩⟩ := h
  · exact ⟨h1, .inl h2⟩
  · exact ⟨h1, .inr ⟨b, off, rfl, by omega, by omega, hc⟩⟩
theorem RowP.at_ (h : RowP lo hi w a n ps) {i : Nat} (hi' : i < n) : ∃ b off, a = some ⟨b, off, none⟩ ∧ lo ≤ b ∧ b < hi ∧ ∀ i, i < n → w.cell? ⟨b, off + i * 2, none⟩ = some (.int .i64 (ps.getD i (0, 0)).1) ∧ w.cell? ⟨b, off + i * 2 + 1, none⟩ = some (.int .i64 (ps.getD i (0, 0)).2) :=
  h.2.resolve_left (by omega)
end

theorem Try.arr : ArrKey Try.prog 35 3 2 := ⟨Try.underlying35, by kernel_rfl, by kernel_rfl, by kernel_rfl⟩
theorem Try.typesPos : ∃ m, Try.prog.types.size = m + 1 := ⟨Try.prog.types.size - 1, by have : 0 < Try.prog.types.size := of_decide_eq_true (by kernel_rfl); omega⟩
theorem Try.pairLaw : Go.WideMaps.KeyLaw Try.prog 35 := Try.arr.law
theorem Try.pairKeyed : Keyed Try.prog 35 := Keyed.of_law Try.pairLaw
theorem Try.zeroUnit (w : World) : (zeroValue 47).run Try.prog w = .ok (.agg #[]) w := by kernel_rfl

def fits (x : Int) : Prop := -9223372036854775808 ≤ x ∧ x ≤ 9223372036854775807
theorem fits_wf {x : Int} (h : fits x) : (Lit.int .i64 x).wf = true := WalkArith.wf_i64 (by unfold fits at h; omega)
def pairV (x y : Int) : Value := .agg #[.int .i64 x, .int .i64 y]
theorem pair_key {x y : Int} (hx : fits x) (hy : fits y) : ∃ kl, keyOf Try.prog 35 (.agg #[.int .i64 x, .int .i64 y]) = some kl ∧ WideAt.IsKeyLit kl :=
  ⟨_, keyOf_pair Try.arr Try.underlying3 Try.typesPos (fits_wf hx) (fits_wf hy), trivial⟩

theorem uniL_comm (p : List Nat) (x y : Int) : uniL p x y = uniL p y x := by
  unfold uniL
  have e : inB p x y = inB p y x := by unfold inB; rw [decide_eq_decide]; omega
  have e2 : join (el p x.toNat) (el p y.toNat) = join (el p y.toNat) (el p x.toNat) := by
    funext v; unfold join; rw [Nat.max_comm, Nat.min_comm]
  rw [e, e2]
theorem uniL_minmax (p : List Nat) (x y : Int) : uniL p (min x y) (max x y) = uniL p x y := by
  rcases Int.le_total x y with h | h
  · rw [Int.min_eq_left h, Int.max_eq_right h]
  · rw [Int.min_eq_right h, Int.max_eq_left h, uniL_comm]

/-- Each pair in the map is there, and of one class. -/
def Inv (R : List Nat) (D : DataW Unit) : Prop := ∀ kl, Maps.has D kl = true → ∃ x y : Int, keyOf Try.prog 35 (.agg #[.int .i64 x, .int .i64 y]) = some kl ∧ inB R x y = true ∧ el R x.toNat = el R y.toNat
theorem inv_nil (R : List Nat) : Inv R (.map []) := fun kl h => by simp [Maps.has] at h
theorem inv_uni {R : List Nat} {D : DataW Unit} (h : Inv R D) (x y : Int) : Inv (uniL R x y) D := by
  intro kl hk
  obtain ⟨a, b, h1, h2, h3⟩ := h kl hk
  have h4 := h2
  simp only [inB, decide_eq_true_eq] at h2
  refine ⟨a, b, h1, by unfold inB at h4 ⊢; rw [uniL_length]; exact h4, ?_⟩
  by_cases hi : inB R x y = true
  · rw [uniL_el hi (by omega), uniL_el hi (by omega), h3]
  · rw [uniL_out hi]; exact h3
theorem inv_put {R : List Nat} {D : DataW Unit} (h : Inv R D) {x y : Int} (hi : inB R x y = true) {kl : Lit} (hk : keyOf Try.prog 35 (.agg #[.int .i64 x, .int .i64 y]) = some kl) (d : DataW Unit) : Inv (uniL R x y) (D.put kl d) := by
  intro kl' hk'
  by_cases e : kl' = kl
  · subst e
    exact ⟨x, y, hk, by unfold inB at hi ⊢; rw [uniL_length]; exact hi, uni_same hi⟩
  · rw [has_put_other e] at hk'
    exact inv_uni h x y kl' hk'
theorem inv_hit {R : List Nat} {D : DataW Unit} (h : Inv R D) {x y : Int} {kl : Lit} (hk : keyOf Try.prog 35 (.agg #[.int .i64 x, .int .i64 y]) = some kl) (hh : Maps.has D kl = true) : uniL R x y = R := by
  obtain ⟨a, b, h1, h2, h3⟩ := h kl hh
  have := Try.pairLaw.inj h1 hk
  simp at this
  obtain ⟨rfl, rfl⟩ := this
  exact uni_one h3

end Go.Proofs.Ytodkdjgpmfegcaa
