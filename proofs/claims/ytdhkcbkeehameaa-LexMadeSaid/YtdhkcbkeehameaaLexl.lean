/- The statements' awake; the walk of the law LexAll. -/
import Derived.Test.YtdhkcbkeehameaaLexq
import Derived.Deep.RegionWith
import Derived.Deep.RegionHeld3
namespace Go.Proofs.Ytdhkcbkeehameaa
open Go.RowKit
set_option linter.unusedVariables false
set_option linter.unusedSimpArgs false

theorem below_nxt {B : Nat} {w w' w'' : World} (h : Below B w w') (k : Below w'.heap.size w' w'') (hB : B ≤ w.heap.size) : Below B w w'' := h.trans (k.mono (Nat.le_trans hB h.size))
/-- How many tokens, if all is well; where not, else. -/
def Lx.num : Lx → Nat × Nat
  | Sum.inl i => (0, i)
  | Sum.inr l => (1, l.length)
theorem Lx.of_bad {x : Lx} {i : Nat} (h : x.num = (0, i)) : x = .bad i := by
  rcases Lx.cases x with ⟨j, rfl⟩ | ⟨l, rfl⟩
  · have h2 : (0, j) = (0, i) := h
    simp at h2; rw [h2]
  · have h2 : (1, l.length) = (0, i) := h
    simp at h2
theorem Lx.of_ok {x : Lx} {n : Nat} (h : x.num = (1, n)) : ∃ l, x = .ok l ∧ l.length = n := by
  rcases Lx.cases x with ⟨j, rfl⟩ | ⟨l, rfl⟩
  · have h2 : (0, j) = (1, n) := h
    simp at h2
  · have h2 : (1, l.length) = (1, n) := h
    simp at h2; exact ⟨l, rfl, h2⟩

/-- What Lex tells, opened. -/
theorem LexOut.of_bad {w w' : World} {x : Lx} {v : Value} {E A : Int} {i : Nat} (h : LexOut w x v E A w') (hx : x = .bad i) : v = .slice none 0 0 ∧ E = 3 ∧ A = i := by subst hx; exact h
theorem LexOut.of_ok {w w' : World} {x : Lx} {v : Value} {E A : Int} {ts : List Tk} (h : LexOut w x v E A w') (hx : x = .ok ts) : (∃ a c, v = .slice a ts.length c ∧ ts.length ≤ c ∧ TR w'.heap.size w' a ts.length ts) ∧ E = 0 ∧ A = 0 := by
  subst hx
  exact ⟨TR.of_owns h.1, h.2⟩

theorem awk_one : (lexL [108, 101, 116, 32, 120, 61, 49, 59] 0).num = (1, 5) := by decide +kernel
theorem awk_two : (lexL [97, 32, 35] 0).num = (0, 2) := by decide +kernel

set_option maxHeartbeats 1000000 in
theorem awake9 (w : World) : Calls Try.prog 9 #[] w fun e w' => e = .returned (.bool true) ∧ Below w.heap.size w w' := by
  go_enter Try.func9, Try.ntmps9
  go_wp2_with fail
  refine (t_lex ⟨#[108, 101, 116, 32, 120, 61, 49, 59]⟩ w (by decide)).mono ?_
  rintro e w1 ⟨v1, E1, A1, rfl, ho1, hb1⟩
  obtain ⟨l1, hx1, hl1⟩ := Lx.of_ok awk_one
  obtain ⟨⟨a1, c1, rfl, _, _⟩, rfl, rfl⟩ := ho1.of_ok hx1
  rw [hl1]
  go_wp2_with fail
  refine (t_lex ⟨#[97, 32, 35]⟩ w1 (by decide)).mono ?_
  rintro e w2 ⟨v2, E2, A2, rfl, ho2, hb2⟩
  obtain ⟨rfl, rfl, rfl⟩ := ho2.of_bad (Lx.of_bad awk_two)
  go_wp2_with (go_at_call 13; refine (num_any _ _).mono ?_; rintro e w' ⟨rfl, rfl⟩)
  go_ret
  exact ⟨rfl, below_nxt hb1 hb2 (Nat.le_refl _)⟩

theorem same_below (a b : Option Addr) (n ca cb : Nat) (ts : List Tk) (B : World) (ha : TR B.heap.size B a n ts) (hb : TR B.heap.size B b n ts) (hf : ∀ t ∈ ts, t.fit) (hn : n ≤ 1000000) :
    ∀ w', Below B.heap.size B w' → Calls Try.prog 12 #[.slice a n ca, .slice b n cb] w' fun e w'' => e = .returned (.bool true) ∧ Below w'.heap.size w' w'' :=
  fun w' h => same_any a b n ca cb ts w' ((ha.below h (Nat.le_refl _)).mono h.size) ((hb.below h (Nat.le_refl _)).mono h.size) hf hn
theorem quiet_below {F : Nat} {args : Array Value} {v : Value} (h : ∀ w, Calls Try.prog F args w fun e w' => e = .returned v ∧ w' = w) (B : World) : ∀ w', Below B.heap.size B w' → Calls Try.prog F args w' fun e w'' => e = .returned v ∧ Below w'.heap.size w' w'' :=
  fun w' _ => (h w').mono fun _ _ ⟨h1, h2⟩ => ⟨h1, by rw [h2]; exact Below.refl _ _⟩
theorem awk_below (B : World) : ∀ w', Below B.heap.size B w' → Calls Try.prog 9 #[] w' fun e w'' => e = .returned (.bool true) ∧ Below w'.heap.size w' w'' := fun w' _ => awake9 w'

end Go.Proofs.Ytdhkcbkeehameaa
