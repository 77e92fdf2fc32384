/- Package scc: there, met, begin, enter. -/
import Derived.Test.YtdbjmonboecfgaaGwk
namespace Go.Proofs.Ytdbjmonboecfgaa
open Go.RowKit Go.Maps
set_option linter.unusedVariables false
set_option linter.unusedSimpArgs false

theorem there_yes (a : Option Addr) (n c : Nat) (x : Int) (w : World) (h : 0 ≤ x) (h2 : x < n) :
    Calls Try.prog 30 #[.slice a n c, .int .i64 x] w fun e w' => e = .returned (.bool true) ∧ w = w' := by
  go_enter Try.func30, Try.ntmps30
  go_wp2
  go_ret
  exact ⟨rfl, rfl⟩
theorem there_no (a : Option Addr) (n c : Nat) (x : Int) (w : World) (h : ¬ (0 ≤ x ∧ x < n)) :
    Calls Try.prog 30 #[.slice a n c, .int .i64 x] w fun e w' => e = .returned (.bool false) ∧ w = w' := by
  by_cases h0 : 0 ≤ x
  · have h1 : ¬ x < n := fun h1 => h ⟨h0, h1⟩
    clear h
    go_enter Try.func30, Try.ntmps30
    go_wp2
    go_ret
    exact ⟨rfl, rfl⟩
  · clear h
    go_enter Try.func30, Try.ntmps30
    go_wp2
    go_ret
    exact ⟨rfl, rfl⟩
theorem met_any {c : WB} {w : World} {wv ov : Value} {k : Nat} {G : Nat → Nat → Nat} {s : St} (h : WK c w wv ov k G s) (hl : s.cm.length = c.n) (x : Nat) (hx : x < c.n) :
    Calls Try.prog 22 #[.pointer (some ⟨c.b, 0, none⟩), .int .i64 (x : Int)] w fun e w' => e = .returned (.bool (decide (0 < el s.cm x))) ∧ w' = w := by
  obtain ⟨base, b, mb, cb, eb, fb, n, gv⟩ := c
  obtain ⟨_, _, _, _, _, q5, _, _⟩ := box8 h.box
  have qc := box_el h.cm (i := x) (by rw [hl]; exact hx)
  have hcl := h.cm.lt
  have hbl := h.box.lt
  dsimp only at q5 qc hcl hbl hx ⊢
  obtain ⟨v, hv⟩ : ∃ v, el s.cm x = v := ⟨_, rfl⟩
  rw [hv] at qc ⊢
  have e : decide ((0 : Int) < (v : Int)) = decide (0 < v) := by rw [decide_eq_decide]; omega
  rw [← e]
  clear h hl hv e
  go_enter Try.func22, Try.ntmps22
  go_wp2
  go_ret
  exact ⟨rfl, rfl⟩

end Go.Proofs.Ytdbjmonboecfgaa
