/- The document's Parse at any text: what is too long is told so. -/
import Derived.Test.YtgkeblpjmfdhkaaYparmM
namespace Go.Proofs.Ytgkeblpjmfdhkaa
open Go.RowKit Go.Maps
set_option linter.unusedVariables false
set_option linter.unusedSimpArgs false

set_option maxRecDepth 100000 in
set_option maxHeartbeats 4000000 in
theorem rt_lexLong (s : ByteArray) (w : World) (hs : 65536 < s.size) : Calls Try.prog 49 #[.string s] w fun e w' => e = .returned (.agg #[.slice none 0 0, .int .i64 1, .int .i64 0]) ∧ Below w.heap.size w w' := by
  have hl : decide ((65536 : Int) < (s.size : Int)) = true := decide_eq_true (by omega)
  have hl2 : (65536 : Int) < (s.size : Int) := by omega
  go_enter Try.func49, Try.ntmps49
  go_wp2_with fail
  refine bodyPost_ret (v := .agg #[.slice none 0 0, .int .i64 1, .int .i64 0]) (by simp only [results, Try.results49]; go_simp <;> rfl) rfl ⟨rfl, ?_⟩
  repeat (first | exact Below.refl _ _ | refine Below.setCell ?_ (by simp) _ | refine Below.alloc ?_ (by simp) _)
set_option maxRecDepth 100000 in
set_option maxHeartbeats 4000000 in
theorem y_ParseLong (s : ByteArray) (w : World) (hs : 65536 < s.size) :
    Calls Try.prog 22 #[.string s] w fun e w' => ∃ a b, e = .returned (.agg #[a, b, .int .i64 1, .int .i64 0]) ∧ IsV (New w) w' (pgC ⟨[], []⟩) (.agg #[a, b]) ∧ Below w.heap.size w w' := by
  go_enter Try.func22, Try.ntmps22
  go_wp2_with (go_at_call 49; refine (rt_lexLong s _ hs).mono ?_; rintro e w2 ⟨rfl, hb2⟩; have bx := (Box.new w 49 [.slice none 0 0, .slice none 0 0, .int .i64 0, .int .i64 0]).below hb2; obtain ⟨_, _, _, _⟩ := four_cells bx; obtain ⟨_, _, _, _⟩ := four_frozen bx; have hlt := bx.lt; have HB2 := Lib.hid hb2; clear hb2 bx)
  refine bodyPost_ret (v := .agg #[.slice none 0 0, .slice none 0 0, .int .i64 1, .int .i64 0]) (by simp only [results, Try.results22]; go_simp <;> rfl) rfl ?_
  refine ⟨_, _, rfl, IsV.no_pg _ _, ?_⟩
  have h2 : Below w.heap.size w w2 := ((Below.refl _ w).alloc (Nat.le_refl _) _).trans (HB2.out.mono (by simp))
  exact ((((h2.setCell (p := ⟨w.heap.size, 0, none⟩) (Nat.le_refl _) _).setCell (p := ⟨w.heap.size, 1, none⟩) (Nat.le_refl _) _).setCell (p := ⟨w.heap.size, 2, none⟩) (Nat.le_refl _) _).setCell (p := ⟨w.heap.size, 3, none⟩) (Nat.le_refl _) _).alloc (by simp; omega) _

/-- What any text is as a program. -/
def parseA (s : By) : Out3 := if s.length ≤ 65536 then parseL s else ⟨⟨[], []⟩, 1, 0⟩
theorem y_ParseA (s : By) (w : World) {O : Out3} (hO : parseA s = O) :
    Calls Try.prog 22 #[.string (strB s)] w fun e w' => ∃ a b, e = .returned (.agg #[a, b, .int .i64 (O.e : Int), .int .i64 O.at_]) ∧ IsV (New w) w' (pgC O.p) (.agg #[a, b]) ∧ Below w.heap.size w w' := by
  unfold parseA at hO
  split at hO
  · rename_i h; exact y_Parse s w h hO
  · rename_i h; subst hO; exact y_ParseLong (strB s) w (by rw [strB_size]; omega)

end Go.Proofs.Ytgkeblpjmfdhkaa
