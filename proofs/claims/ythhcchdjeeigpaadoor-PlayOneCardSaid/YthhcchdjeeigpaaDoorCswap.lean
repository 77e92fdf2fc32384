/- Contracts of the document's swap, and of what follows a find, whatever follows. -/
import Derived.Test.YthhcchdjeeigpaaDoorCbegin
namespace Go.Proofs.YthhcchdjeeigpaaDoor
open Go.RowKit
set_option linter.unusedVariables false

theorem swap_yes (g la ca : Nat) (up : List Nat) (at' was now : Nat) (w : World) (ho : Own w g up) (hl : up.length = la) (hx : at' < la) (he : el up at' = was) (hm : la ≤ 1000000) :
    Calls Tryd.prog 64 #[.slice (some ⟨g, 0, none⟩) la ca, .int .i64 (at' : Int), .int .i64 (was : Int), .int .i64 (now : Int)] w fun e w' => e = .returned (.bool true) ∧ w.setCell ⟨g, at', none⟩ (.int .i64 (now : Int)) = w' := by
  obtain ⟨c1, f1⟩ := ho.2 at' (by omega)
  rw [he] at c1
  have hx0 : (0 : Int) ≤ at' := by omega
  have hx1 : (at' : Int) < la := by omega
  have hs : ((was : Int) != (was : Int)) = false := by simp
  have hg := ho.1
  clear ho he
  go_enter Tryd.func64, Tryd.ntmps64
  go_wp2_with fail
  go_ret
  exact ⟨rfl, rfl⟩
theorem swap_no (g la ca : Nat) (up : List Nat) (at' was now : Nat) (w : World) (ho : Own w g up) (hl : up.length = la) (hx : at' < la) (he : el up at' ≠ was) (hm : la ≤ 1000000) :
    Calls Tryd.prog 64 #[.slice (some ⟨g, 0, none⟩) la ca, .int .i64 (at' : Int), .int .i64 (was : Int), .int .i64 (now : Int)] w fun e w' => e = .returned (.bool false) ∧ w = w' := by
  obtain ⟨c1, f1⟩ := ho.2 at' (by omega)
  have hx0 : (0 : Int) ≤ at' := by omega
  have hx1 : (at' : Int) < la := by omega
  have hs : ((el up at' : Int) != (was : Int)) = true := bne_iff_ne.2 (by omega)
  have hg := ho.1
  generalize el up at' = z at *
  clear ho he
  go_enter Tryd.func64, Tryd.ntmps64
  go_wp2_with fail
  go_ret
  exact ⟨rfl, rfl⟩

/-- What follows the first find, the second one: as one contract each, the fields that may change named. -/
def Fst (k u st : Int) (dn : Bool) (res st' : Int) (dn' : Bool) (res' : Int) : Prop := (k = 1 ∧ st' = st ∧ dn' = true ∧ res' = u) ∨ (k ≠ 1 ∧ st' = 4 ∧ dn' = dn ∧ res' = res)
def Snd (k u v st : Int) (dn : Bool) (res st' : Int) (dn' : Bool) (res' : Int) : Prop :=
  (u = v ∧ k = 2 ∧ st' = st ∧ dn' = true ∧ res' = 1) ∨ (u = v ∧ k ≠ 2 ∧ st' = st ∧ dn' = true ∧ res' = 0) ∨ (u ≠ v ∧ k = 2 ∧ st' = 7 ∧ dn' = dn ∧ res' = res) ∨ (u ≠ v ∧ k = 3 ∧ st' = 8 ∧ dn' = dn ∧ res' = res)
theorem first_v (k x y st u v ww r : Int) (dn : Bool) (res : Int) (st' : Int) (dn' : Bool) (res' : Int) (w : World) (h : Fst k u st dn res st' dn' res') :
    Calls Tryd.prog 81 #[.agg #[.int .i64 k, .int .i64 x, .int .i64 y, .int .i64 st, .int .i64 u, .int .i64 v, .int .i64 ww, .int .i64 r, .bool dn, .int .i64 res]] w fun e w' => e = .returned (.agg #[.int .i64 k, .int .i64 x, .int .i64 y, .int .i64 st', .int .i64 u, .int .i64 v, .int .i64 ww, .int .i64 r, .bool dn', .int .i64 res']) ∧ Below w.heap.size w w' := by
  rcases h with ⟨h, rfl, rfl, rfl⟩ | ⟨h, rfl, rfl, rfl⟩
  · exact first_done _ _ _ _ _ _ _ _ _ _ w (by simpa using h)
  · exact first_on _ _ _ _ _ _ _ _ _ _ w (by simpa using h)
theorem rfirst_v (k x y st u v ww r : Int) (dn : Bool) (res : Int) (st' : Int) (dn' : Bool) (res' : Int) (w : World) (h : Fst k u st dn res st' dn' res') :
    Calls Tryd.prog 63 #[.agg #[.int .i64 k, .int .i64 x, .int .i64 y, .int .i64 st, .int .i64 u, .int .i64 v, .int .i64 ww, .int .i64 r, .bool dn, .int .i64 res]] w fun e w' => e = .returned (.agg #[.int .i64 k, .int .i64 x, .int .i64 y, .int .i64 st', .int .i64 u, .int .i64 v, .int .i64 ww, .int .i64 r, .bool dn', .int .i64 res']) ∧ Below w.heap.size w w' := by
  rcases h with ⟨h, rfl, rfl, rfl⟩ | ⟨h, rfl, rfl, rfl⟩
  · exact rfirst_done _ _ _ _ _ _ _ _ _ _ w (by simpa using h)
  · exact rfirst_on _ _ _ _ _ _ _ _ _ _ w (by simpa using h)
theorem second_v (k x y st u v ww r : Int) (dn : Bool) (res : Int) (st' : Int) (dn' : Bool) (res' : Int) (w : World) (h : Snd k u v st dn res st' dn' res') :
    Calls Tryd.prog 82 #[.agg #[.int .i64 k, .int .i64 x, .int .i64 y, .int .i64 st, .int .i64 u, .int .i64 v, .int .i64 ww, .int .i64 r, .bool dn, .int .i64 res]] w fun e w' => e = .returned (.agg #[.int .i64 k, .int .i64 x, .int .i64 y, .int .i64 st', .int .i64 u, .int .i64 v, .int .i64 ww, .int .i64 r, .bool dn', .int .i64 res']) ∧ Below w.heap.size w w' := by
  rcases h with ⟨h1, h2, rfl, rfl, rfl⟩ | ⟨h1, h2, rfl, rfl, rfl⟩ | ⟨h1, h2, rfl, rfl, rfl⟩ | ⟨h1, h2, rfl, rfl, rfl⟩
  · exact second_done1 _ _ _ _ _ _ _ _ _ _ w (by simpa using h1) (by simpa using h2)
  · exact second_done0 _ _ _ _ _ _ _ _ _ _ w (by simpa using h1) (by simpa using h2)
  · exact second_on7 _ _ _ _ _ _ _ _ _ _ w (by simpa using h1) (by simpa using h2)
  · exact second_on8 _ _ _ _ _ _ _ _ _ _ w (by simpa using h1) (by simp; omega)
theorem rsecond_v (k x y st u v ww r : Int) (dn : Bool) (res : Int) (st' : Int) (dn' : Bool) (res' : Int) (w : World) (h : Snd k u v st dn res st' dn' res') :
    Calls Tryd.prog 65 #[.agg #[.int .i64 k, .int .i64 x, .int .i64 y, .int .i64 st, .int .i64 u, .int .i64 v, .int .i64 ww, .int .i64 r, .bool dn, .int .i64 res]] w fun e w' => e = .returned (.agg #[.int .i64 k, .int .i64 x, .int .i64 y, .int .i64 st', .int .i64 u, .int .i64 v, .int .i64 ww, .int .i64 r, .bool dn', .int .i64 res']) ∧ Below w.heap.size w w' := by
  rcases h with ⟨h1, h2, rfl, rfl, rfl⟩ | ⟨h1, h2, rfl, rfl, rfl⟩ | ⟨h1, h2, rfl, rfl, rfl⟩ | ⟨h1, h2, rfl, rfl, rfl⟩
  · exact rsecond_done1 _ _ _ _ _ _ _ _ _ _ w (by simpa using h1) (by simpa using h2)
  · exact rsecond_done0 _ _ _ _ _ _ _ _ _ _ w (by simpa using h1) (by simpa using h2)
  · exact rsecond_on7 _ _ _ _ _ _ _ _ _ _ w (by simpa using h1) (by simp; omega)
  · exact rsecond_on8 _ _ _ _ _ _ _ _ _ _ w (by simpa using h1) (by simpa using h2)

section
variable {w w' : World} {b : Nat} {t : TypeId} {c0 c1 c2 c3 c4 c5 c6 c7 c8 c9 c10 : Value}
theorem Box.eleven (h : Box w b t [c0, c1, c2, c3, c4, c5, c6, c7, c8, c9, c10]) : w.cell? ⟨b, 0, none⟩ = some c0 ∧ w.cell? ⟨b, 1, none⟩ = some c1 ∧ w.cell? ⟨b, 2, none⟩ = some c2 ∧ w.cell? ⟨b, 3, none⟩ = some c3 ∧ w.cell? ⟨b, 4, none⟩ = some c4 ∧ w.cell? ⟨b, 5, none⟩ = some c5 ∧ w.cell? ⟨b, 6, none⟩ = some c6 ∧ w.cell? ⟨b, 7, none⟩ = some c7 ∧ w.cell? ⟨b, 8, none⟩ = some c8 ∧ w.cell? ⟨b, 9, none⟩ = some c9 ∧ w.cell? ⟨b, 10, none⟩ = some c10 :=
  ⟨h.cell 0, h.cell 1, h.cell 2, h.cell 3, h.cell 4, h.cell 5, h.cell 6, h.cell 7, h.cell 8, h.cell 9, h.cell 10⟩
theorem Box.elevenf (h : Box w b t [c0, c1, c2, c3, c4, c5, c6, c7, c8, c9, c10]) : w.frozen? ⟨b, 0, none⟩ = false ∧ w.frozen? ⟨b, 1, none⟩ = false ∧ w.frozen? ⟨b, 2, none⟩ = false ∧ w.frozen? ⟨b, 3, none⟩ = false ∧ w.frozen? ⟨b, 4, none⟩ = false ∧ w.frozen? ⟨b, 5, none⟩ = false ∧ w.frozen? ⟨b, 6, none⟩ = false ∧ w.frozen? ⟨b, 7, none⟩ = false ∧ w.frozen? ⟨b, 8, none⟩ = false ∧ w.frozen? ⟨b, 9, none⟩ = false ∧ w.frozen? ⟨b, 10, none⟩ = false :=
  ⟨h.frozen 0, h.frozen 1, h.frozen 2, h.frozen 3, h.frozen 4, h.frozen 5, h.frozen 6, h.frozen 7, h.frozen 8, h.frozen 9, h.frozen 10⟩
end

end Go.Proofs.YthhcchdjeeigpaaDoor
