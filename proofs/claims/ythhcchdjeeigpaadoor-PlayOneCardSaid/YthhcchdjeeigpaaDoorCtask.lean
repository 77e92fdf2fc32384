/- Contracts of the small functions on tasks: done, what follows a find's end; Begin. -/
import Derived.Test.YthhcchdjeeigpaaDoorCroot
namespace Go.Proofs.YthhcchdjeeigpaaDoor
open Go.RowKit
set_option linter.unusedVariables false

def Tk.cells (t : Tk) : List Value := [.int .i64 (t.k : Int), .int .i64 (t.x : Int), .int .i64 (t.y : Int), .int .i64 (t.st : Int), .int .i64 (t.u : Int), .int .i64 (t.v : Int), .int .i64 (t.w : Int), .int .i64 (t.r : Int), .bool t.dn, .int .i64 (t.res : Int)]
def Tk.val (t : Tk) : Value := .agg t.cells.toArray

theorem tk_val (k x y st u v w r : Nat) (dn : Bool) (res : Nat) : (⟨k, x, y, st, u, v, w, r, dn, res⟩ : Tk).val =
    .agg #[.int .i64 (k : Int), .int .i64 (x : Int), .int .i64 (y : Int), .int .i64 (st : Int), .int .i64 (u : Int), .int .i64 (v : Int), .int .i64 (w : Int), .int .i64 (r : Int), .bool dn, .int .i64 (res : Int)] := rfl


section
variable {w w' : World} {b : Nat} {t : TypeId} {c0 c1 c2 c3 c4 c5 c6 c7 c8 c9 : Value}
theorem Box.ten (h : Box w b t [c0, c1, c2, c3, c4, c5, c6, c7, c8, c9]) : w.cell? ⟨b, 0, none⟩ = some c0 ∧ w.cell? ⟨b, 1, none⟩ = some c1 ∧ w.cell? ⟨b, 2, none⟩ = some c2 ∧ w.cell? ⟨b, 3, none⟩ = some c3 ∧ w.cell? ⟨b, 4, none⟩ = some c4 ∧ w.cell? ⟨b, 5, none⟩ = some c5 ∧ w.cell? ⟨b, 6, none⟩ = some c6 ∧ w.cell? ⟨b, 7, none⟩ = some c7 ∧ w.cell? ⟨b, 8, none⟩ = some c8 ∧ w.cell? ⟨b, 9, none⟩ = some c9 :=
  ⟨h.cell 0, h.cell 1, h.cell 2, h.cell 3, h.cell 4, h.cell 5, h.cell 6, h.cell 7, h.cell 8, h.cell 9⟩
theorem Box.tenf (h : Box w b t [c0, c1, c2, c3, c4, c5, c6, c7, c8, c9]) : w.frozen? ⟨b, 0, none⟩ = false ∧ w.frozen? ⟨b, 1, none⟩ = false ∧ w.frozen? ⟨b, 2, none⟩ = false ∧ w.frozen? ⟨b, 3, none⟩ = false ∧ w.frozen? ⟨b, 4, none⟩ = false ∧ w.frozen? ⟨b, 5, none⟩ = false ∧ w.frozen? ⟨b, 6, none⟩ = false ∧ w.frozen? ⟨b, 7, none⟩ = false ∧ w.frozen? ⟨b, 8, none⟩ = false ∧ w.frozen? ⟨b, 9, none⟩ = false :=
  ⟨h.frozen 0, h.frozen 1, h.frozen 2, h.frozen 3, h.frozen 4, h.frozen 5, h.frozen 6, h.frozen 7, h.frozen 8, h.frozen 9⟩
end


/-- The way out of a function whose one result is a struct in a cell. -/
theorem below_two (w : World) (o1 o2 : Obj) : Below w.heap.size w ((w.alloc o1).alloc o2) := ((Below.refl _ _).alloc (Nat.le_refl _) _).alloc (by simp) _

set_option maxRecDepth 100000 in
theorem done_lit (k x y st u v ww r : Int) (dn : Bool) (res : Int) (n : Int) (w : World) :
    Calls Tryd.prog 93 #[.agg #[.int .i64 k, .int .i64 x, .int .i64 y, .int .i64 st, .int .i64 u, .int .i64 v, .int .i64 ww, .int .i64 r, .bool dn, .int .i64 res], .int .i64 n] w fun e w' => e = .returned (.agg #[.int .i64 k, .int .i64 x, .int .i64 y, .int .i64 st, .int .i64 u, .int .i64 v, .int .i64 ww, .int .i64 r, .bool true, .int .i64 n]) ∧ Below w.heap.size w w' := by
  go_enter Tryd.func93, Tryd.ntmps93
  go_wp2_with fail
  refine bodyPost_ret (v := .agg #[.int .i64 k, .int .i64 x, .int .i64 y, .int .i64 st, .int .i64 u, .int .i64 v, .int .i64 ww, .int .i64 r, .bool true, .int .i64 n]) (by simp only [results, Tryd.results93]; go_simp) rfl ⟨rfl, ?_⟩
  exact below_two _ _ _

set_option maxRecDepth 100000 in
theorem rdone_lit (k x y st u v ww r : Int) (dn : Bool) (res : Int) (n : Int) (w : World) :
    Calls Tryd.prog 66 #[.agg #[.int .i64 k, .int .i64 x, .int .i64 y, .int .i64 st, .int .i64 u, .int .i64 v, .int .i64 ww, .int .i64 r, .bool dn, .int .i64 res], .int .i64 n] w fun e w' => e = .returned (.agg #[.int .i64 k, .int .i64 x, .int .i64 y, .int .i64 st, .int .i64 u, .int .i64 v, .int .i64 ww, .int .i64 r, .bool true, .int .i64 n]) ∧ Below w.heap.size w w' := by
  go_enter Tryd.func66, Tryd.ntmps66
  go_wp2_with fail
  refine bodyPost_ret (v := .agg #[.int .i64 k, .int .i64 x, .int .i64 y, .int .i64 st, .int .i64 u, .int .i64 v, .int .i64 ww, .int .i64 r, .bool true, .int .i64 n]) (by simp only [results, Tryd.results66]; go_simp) rfl ⟨rfl, ?_⟩
  exact below_two _ _ _

set_option maxRecDepth 100000 in
set_option maxHeartbeats 1000000 in
theorem first_done (k x y st u v ww r : Int) (dn : Bool) (res : Int) (w : World) (hk : (k == 1) = true) :
    Calls Tryd.prog 81 #[.agg #[.int .i64 k, .int .i64 x, .int .i64 y, .int .i64 st, .int .i64 u, .int .i64 v, .int .i64 ww, .int .i64 r, .bool dn, .int .i64 res]] w fun e w' => e = .returned (.agg #[.int .i64 k, .int .i64 x, .int .i64 y, .int .i64 st, .int .i64 u, .int .i64 v, .int .i64 ww, .int .i64 r, .bool true, .int .i64 u]) ∧ Below w.heap.size w w' := by
  go_enter Tryd.func81, Tryd.ntmps81
  go_wp2_with fail
  refine (done_lit _ _ _ _ _ _ _ _ _ _ _ _).mono ?_
  rintro e w1 ⟨rfl, hb⟩
  have hs := hb.size
  simp only [World.size_alloc] at hs
  have bx := (Box.new (w.alloc (.cells #[.int .i64 k, .int .i64 x, .int .i64 y, .int .i64 st, .int .i64 u, .int .i64 v, .int .i64 ww, .int .i64 r, .bool dn, .int .i64 res] 87)) 87 [.int .i64 0, .int .i64 0, .int .i64 0, .int .i64 0, .int .i64 0, .int .i64 0, .int .i64 0, .int .i64 0, .bool false, .int .i64 0]).below hb
  rw [World.size_alloc] at bx
  obtain ⟨_, _, _, _, _, _, _, _, _, _⟩ := bx.ten
  obtain ⟨_, _, _, _, _, _, _, _, _, _⟩ := bx.tenf
  have hlt : w.heap.size + 1 < w1.heap.size := by omega
  have HB : Hid (Below w.heap.size w w1) := (below_two _ _ _).trans (hb.mono (by simp; omega))
  clear hb bx hs
  go_wp2_with fail
  refine bodyPost_ret (v := .agg #[.int .i64 k, .int .i64 x, .int .i64 y, .int .i64 st, .int .i64 u, .int .i64 v, .int .i64 ww, .int .i64 r, .bool true, .int .i64 u]) (by simp only [results, Tryd.results81]; go_simp) rfl ⟨rfl, ?_⟩
  exact (((((((((HB.out.setCell (Nat.le_succ _) _).setCell (Nat.le_succ _) _).setCell (Nat.le_succ _) _).setCell (Nat.le_succ _) _).setCell (Nat.le_succ _) _).setCell (Nat.le_succ _) _).setCell (Nat.le_succ _) _).setCell (Nat.le_succ _) _).setCell (Nat.le_succ _) _).setCell (Nat.le_succ _) _

set_option maxRecDepth 100000 in
set_option maxHeartbeats 1000000 in
theorem first_on (k x y st u v ww r : Int) (dn : Bool) (res : Int) (w : World) (hk : (k == 1) = false) :
    Calls Tryd.prog 81 #[.agg #[.int .i64 k, .int .i64 x, .int .i64 y, .int .i64 st, .int .i64 u, .int .i64 v, .int .i64 ww, .int .i64 r, .bool dn, .int .i64 res]] w fun e w' => e = .returned (.agg #[.int .i64 k, .int .i64 x, .int .i64 y, .int .i64 4, .int .i64 u, .int .i64 v, .int .i64 ww, .int .i64 r, .bool dn, .int .i64 res]) ∧ Below w.heap.size w w' := by
  go_enter Tryd.func81, Tryd.ntmps81
  go_wp2_with fail
  refine bodyPost_ret (v := .agg #[.int .i64 k, .int .i64 x, .int .i64 y, .int .i64 4, .int .i64 u, .int .i64 v, .int .i64 ww, .int .i64 r, .bool dn, .int .i64 res]) (by simp only [results, Tryd.results81]; go_simp) rfl ⟨rfl, ?_⟩
  exact below_two _ _ _

set_option maxRecDepth 100000 in
set_option maxHeartbeats 1000000 in
theorem rfirst_done (k x y st u v ww r : Int) (dn : Bool) (res : Int) (w : World) (hk : (k == 1) = true) :
    Calls Tryd.prog 63 #[.agg #[.int .i64 k, .int .i64 x, .int .i64 y, .int .i64 st, .int .i64 u, .int .i64 v, .int .i64 ww, .int .i64 r, .bool dn, .int .i64 res]] w fun e w' => e = .returned (.agg #[.int .i64 k, .int .i64 x, .int .i64 y, .int .i64 st, .int .i64 u, .int .i64 v, .int .i64 ww, .int .i64 r, .bool true, .int .i64 u]) ∧ Below w.heap.size w w' := by
  go_enter Tryd.func63, Tryd.ntmps63
  go_wp2_with fail
  refine (rdone_lit _ _ _ _ _ _ _ _ _ _ _ _).mono ?_
  rintro e w1 ⟨rfl, hb⟩
  have hs := hb.size
  simp only [World.size_alloc] at hs
  have bx := (Box.new (w.alloc (.cells #[.int .i64 k, .int .i64 x, .int .i64 y, .int .i64 st, .int .i64 u, .int .i64 v, .int .i64 ww, .int .i64 r, .bool dn, .int .i64 res] 87)) 87 [.int .i64 0, .int .i64 0, .int .i64 0, .int .i64 0, .int .i64 0, .int .i64 0, .int .i64 0, .int .i64 0, .bool false, .int .i64 0]).below hb
  rw [World.size_alloc] at bx
  obtain ⟨_, _, _, _, _, _, _, _, _, _⟩ := bx.ten
  obtain ⟨_, _, _, _, _, _, _, _, _, _⟩ := bx.tenf
  have hlt : w.heap.size + 1 < w1.heap.size := by omega
  have HB : Hid (Below w.heap.size w w1) := (below_two _ _ _).trans (hb.mono (by simp; omega))
  clear hb bx hs
  go_wp2_with fail
  refine bodyPost_ret (v := .agg #[.int .i64 k, .int .i64 x, .int .i64 y, .int .i64 st, .int .i64 u, .int .i64 v, .int .i64 ww, .int .i64 r, .bool true, .int .i64 u]) (by simp only [results, Tryd.results63]; go_simp) rfl ⟨rfl, ?_⟩
  exact (((((((((HB.out.setCell (Nat.le_succ _) _).setCell (Nat.le_succ _) _).setCell (Nat.le_succ _) _).setCell (Nat.le_succ _) _).setCell (Nat.le_succ _) _).setCell (Nat.le_succ _) _).setCell (Nat.le_succ _) _).setCell (Nat.le_succ _) _).setCell (Nat.le_succ _) _).setCell (Nat.le_succ _) _

set_option maxRecDepth 100000 in
set_option maxHeartbeats 1000000 in
theorem rfirst_on (k x y st u v ww r : Int) (dn : Bool) (res : Int) (w : World) (hk : (k == 1) = false) :
    Calls Tryd.prog 63 #[.agg #[.int .i64 k, .int .i64 x, .int .i64 y, .int .i64 st, .int .i64 u, .int .i64 v, .int .i64 ww, .int .i64 r, .bool dn, .int .i64 res]] w fun e w' => e = .returned (.agg #[.int .i64 k, .int .i64 x, .int .i64 y, .int .i64 4, .int .i64 u, .int .i64 v, .int .i64 ww, .int .i64 r, .bool dn, .int .i64 res]) ∧ Below w.heap.size w w' := by
  go_enter Tryd.func63, Tryd.ntmps63
  go_wp2_with fail
  refine bodyPost_ret (v := .agg #[.int .i64 k, .int .i64 x, .int .i64 y, .int .i64 4, .int .i64 u, .int .i64 v, .int .i64 ww, .int .i64 r, .bool dn, .int .i64 res]) (by simp only [results, Tryd.results63]; go_simp) rfl ⟨rfl, ?_⟩
  exact below_two _ _ _

set_option maxRecDepth 100000 in
set_option maxHeartbeats 1000000 in
theorem second_done1 (k x y st u v ww r : Int) (dn : Bool) (res : Int) (w : World) (hu : (u == v) = true) (hk : (k == 2) = true) :
    Calls Tryd.prog 82 #[.agg #[.int .i64 k, .int .i64 x, .int .i64 y, .int .i64 st, .int .i64 u, .int .i64 v, .int .i64 ww, .int .i64 r, .bool dn, .int .i64 res]] w fun e w' => e = .returned (.agg #[.int .i64 k, .int .i64 x, .int .i64 y, .int .i64 st, .int .i64 u, .int .i64 v, .int .i64 ww, .int .i64 r, .bool true, .int .i64 1]) ∧ Below w.heap.size w w' := by
  go_enter Tryd.func82, Tryd.ntmps82
  go_wp2_with fail
  refine (done_lit _ _ _ _ _ _ _ _ _ _ _ _).mono ?_
  rintro e w1 ⟨rfl, hb⟩
  have hs := hb.size
  simp only [World.size_alloc] at hs
  have bx := (Box.new (w.alloc (.cells #[.int .i64 k, .int .i64 x, .int .i64 y, .int .i64 st, .int .i64 u, .int .i64 v, .int .i64 ww, .int .i64 r, .bool dn, .int .i64 res] 87)) 87 [.int .i64 0, .int .i64 0, .int .i64 0, .int .i64 0, .int .i64 0, .int .i64 0, .int .i64 0, .int .i64 0, .bool false, .int .i64 0]).below hb
  rw [World.size_alloc] at bx
  obtain ⟨_, _, _, _, _, _, _, _, _, _⟩ := bx.ten
  obtain ⟨_, _, _, _, _, _, _, _, _, _⟩ := bx.tenf
  have hlt : w.heap.size + 1 < w1.heap.size := by omega
  have HB : Hid (Below w.heap.size w w1) := (below_two _ _ _).trans (hb.mono (by simp; omega))
  clear hb bx hs
  go_wp2_with fail
  refine bodyPost_ret (v := .agg #[.int .i64 k, .int .i64 x, .int .i64 y, .int .i64 st, .int .i64 u, .int .i64 v, .int .i64 ww, .int .i64 r, .bool true, .int .i64 1]) (by simp only [results, Tryd.results82]; go_simp) rfl ⟨rfl, ?_⟩
  exact (((((((((HB.out.setCell (Nat.le_succ _) _).setCell (Nat.le_succ _) _).setCell (Nat.le_succ _) _).setCell (Nat.le_succ _) _).setCell (Nat.le_succ _) _).setCell (Nat.le_succ _) _).setCell (Nat.le_succ _) _).setCell (Nat.le_succ _) _).setCell (Nat.le_succ _) _).setCell (Nat.le_succ _) _

set_option maxRecDepth 100000 in
set_option maxHeartbeats 1000000 in
theorem second_done0 (k x y st u v ww r : Int) (dn : Bool) (res : Int) (w : World) (hu : (u == v) = true) (hk : (k == 2) = false) :
    Calls Tryd.prog 82 #[.agg #[.int .i64 k, .int .i64 x, .int .i64 y, .int .i64 st, .int .i64 u, .int .i64 v, .int .i64 ww, .int .i64 r, .bool dn, .int .i64 res]] w fun e w' => e = .returned (.agg #[.int .i64 k, .int .i64 x, .int .i64 y, .int .i64 st, .int .i64 u, .int .i64 v, .int .i64 ww, .int .i64 r, .bool true, .int .i64 0]) ∧ Below w.heap.size w w' := by
  go_enter Tryd.func82, Tryd.ntmps82
  go_wp2_with fail
  refine (done_lit _ _ _ _ _ _ _ _ _ _ _ _).mono ?_
  rintro e w1 ⟨rfl, hb⟩
  have hs := hb.size
  simp only [World.size_alloc] at hs
  have bx := (Box.new (w.alloc (.cells #[.int .i64 k, .int .i64 x, .int .i64 y, .int .i64 st, .int .i64 u, .int .i64 v, .int .i64 ww, .int .i64 r, .bool dn, .int .i64 res] 87)) 87 [.int .i64 0, .int .i64 0, .int .i64 0, .int .i64 0, .int .i64 0, .int .i64 0, .int .i64 0, .int .i64 0, .bool false, .int .i64 0]).below hb
  rw [World.size_alloc] at bx
  obtain ⟨_, _, _, _, _, _, _, _, _, _⟩ := bx.ten
  obtain ⟨_, _, _, _, _, _, _, _, _, _⟩ := bx.tenf
  have hlt : w.heap.size + 1 < w1.heap.size := by omega
  have HB : Hid (Below w.heap.size w w1) := (below_two _ _ _).trans (hb.mono (by simp; omega))
  clear hb bx hs
  go_wp2_with fail
  refine bodyPost_ret (v := .agg #[.int .i64 k, .int .i64 x, .int .i64 y, .int .i64 st, .int .i64 u, .int .i64 v, .int .i64 ww, .int .i64 r, .bool true, .int .i64 0]) (by simp only [results, Tryd.results82]; go_simp) rfl ⟨rfl, ?_⟩
  exact (((((((((HB.out.setCell (Nat.le_succ _) _).setCell (Nat.le_succ _) _).setCell (Nat.le_succ _) _).setCell (Nat.le_succ _) _).setCell (Nat.le_succ _) _).setCell (Nat.le_succ _) _).setCell (Nat.le_succ _) _).setCell (Nat.le_succ _) _).setCell (Nat.le_succ _) _).setCell (Nat.le_succ _) _

set_option maxRecDepth 100000 in
set_option maxHeartbeats 1000000 in
theorem second_on7 (k x y st u v ww r : Int) (dn : Bool) (res : Int) (w : World) (hu : (u == v) = false) (hk : (k == 2) = true) :
    Calls Tryd.prog 82 #[.agg #[.int .i64 k, .int .i64 x, .int .i64 y, .int .i64 st, .int .i64 u, .int .i64 v, .int .i64 ww, .int .i64 r, .bool dn, .int .i64 res]] w fun e w' => e = .returned (.agg #[.int .i64 k, .int .i64 x, .int .i64 y, .int .i64 7, .int .i64 u, .int .i64 v, .int .i64 ww, .int .i64 r, .bool dn, .int .i64 res]) ∧ Below w.heap.size w w' := by
  go_enter Tryd.func82, Tryd.ntmps82
  go_wp2_with fail
  refine bodyPost_ret (v := .agg #[.int .i64 k, .int .i64 x, .int .i64 y, .int .i64 7, .int .i64 u, .int .i64 v, .int .i64 ww, .int .i64 r, .bool dn, .int .i64 res]) (by simp only [results, Tryd.results82]; go_simp) rfl ⟨rfl, ?_⟩
  exact below_two _ _ _

set_option maxRecDepth 100000 in
set_option maxHeartbeats 1000000 in
theorem second_on8 (k x y st u v ww r : Int) (dn : Bool) (res : Int) (w : World) (hu : (u == v) = false) (hk : (k == 2) = false) :
    Calls Tryd.prog 82 #[.agg #[.int .i64 k, .int .i64 x, .int .i64 y, .int .i64 st, .int .i64 u, .int .i64 v, .int .i64 ww, .int .i64 r, .bool dn, .int .i64 res]] w fun e w' => e = .returned (.agg #[.int .i64 k, .int .i64 x, .int .i64 y, .int .i64 8, .int .i64 u, .int .i64 v, .int .i64 ww, .int .i64 r, .bool dn, .int .i64 res]) ∧ Below w.heap.size w w' := by
  go_enter Tryd.func82, Tryd.ntmps82
  go_wp2_with fail
  refine bodyPost_ret (v := .agg #[.int .i64 k, .int .i64 x, .int .i64 y, .int .i64 8, .int .i64 u, .int .i64 v, .int .i64 ww, .int .i64 r, .bool dn, .int .i64 res]) (by simp only [results, Tryd.results82]; go_simp) rfl ⟨rfl, ?_⟩
  exact below_two _ _ _

set_option maxRecDepth 100000 in
set_option maxHeartbeats 1000000 in
theorem rsecond_done1 (k x y st u v ww r : Int) (dn : Bool) (res : Int) (w : World) (hu : (u == v) = true) (hk : (k == 2) = true) :
    Calls Tryd.prog 65 #[.agg #[.int .i64 k, .int .i64 x, .int .i64 y, .int .i64 st, .int .i64 u, .int .i64 v, .int .i64 ww, .int .i64 r, .bool dn, .int .i64 res]] w fun e w' => e = .returned (.agg #[.int .i64 k, .int .i64 x, .int .i64 y, .int .i64 st, .int .i64 u, .int .i64 v, .int .i64 ww, .int .i64 r, .bool true, .int .i64 1]) ∧ Below w.heap.size w w' := by
  go_enter Tryd.func65, Tryd.ntmps65
  go_wp2_with fail
  refine (rdone_lit _ _ _ _ _ _ _ _ _ _ _ _).mono ?_
  rintro e w1 ⟨rfl, hb⟩
  have hs := hb.size
  simp only [World.size_alloc] at hs
  have bx := (Box.new (w.alloc (.cells #[.int .i64 k, .int .i64 x, .int .i64 y, .int .i64 st, .int .i64 u, .int .i64 v, .int .i64 ww, .int .i64 r, .bool dn, .int .i64 res] 87)) 87 [.int .i64 0, .int .i64 0, .int .i64 0, .int .i64 0, .int .i64 0, .int .i64 0, .int .i64 0, .int .i64 0, .bool false, .int .i64 0]).below hb
  rw [World.size_alloc] at bx
  obtain ⟨_, _, _, _, _, _, _, _, _, _⟩ := bx.ten
  obtain ⟨_, _, _, _, _, _, _, _, _, _⟩ := bx.tenf
  have hlt : w.heap.size + 1 < w1.heap.size := by omega
  have HB : Hid (Below w.heap.size w w1) := (below_two _ _ _).trans (hb.mono (by simp; omega))
  clear hb bx hs
  go_wp2_with fail
  refine bodyPost_ret (v := .agg #[.int .i64 k, .int .i64 x, .int .i64 y, .int .i64 st, .int .i64 u, .int .i64 v, .int .i64 ww, .int .i64 r, .bool true, .int .i64 1]) (by simp only [results, Tryd.results65]; go_simp) rfl ⟨rfl, ?_⟩
  exact (((((((((HB.out.setCell (Nat.le_succ _) _).setCell (Nat.le_succ _) _).setCell (Nat.le_succ _) _).setCell (Nat.le_succ _) _).setCell (Nat.le_succ _) _).setCell (Nat.le_succ _) _).setCell (Nat.le_succ _) _).setCell (Nat.le_succ _) _).setCell (Nat.le_succ _) _).setCell (Nat.le_succ _) _

set_option maxRecDepth 100000 in
set_option maxHeartbeats 1000000 in
theorem rsecond_done0 (k x y st u v ww r : Int) (dn : Bool) (res : Int) (w : World) (hu : (u == v) = true) (hk : (k == 2) = false) :
    Calls Tryd.prog 65 #[.agg #[.int .i64 k, .int .i64 x, .int .i64 y, .int .i64 st, .int .i64 u, .int .i64 v, .int .i64 ww, .int .i64 r, .bool dn, .int .i64 res]] w fun e w' => e = .returned (.agg #[.int .i64 k, .int .i64 x, .int .i64 y, .int .i64 st, .int .i64 u, .int .i64 v, .int .i64 ww, .int .i64 r, .bool true, .int .i64 0]) ∧ Below w.heap.size w w' := by
  go_enter Tryd.func65, Tryd.ntmps65
  go_wp2_with fail
  refine (rdone_lit _ _ _ _ _ _ _ _ _ _ _ _).mono ?_
  rintro e w1 ⟨rfl, hb⟩
  have hs := hb.size
  simp only [World.size_alloc] at hs
  have bx := (Box.new (w.alloc (.cells #[.int .i64 k, .int .i64 x, .int .i64 y, .int .i64 st, .int .i64 u, .int .i64 v, .int .i64 ww, .int .i64 r, .bool dn, .int .i64 res] 87)) 87 [.int .i64 0, .int .i64 0, .int .i64 0, .int .i64 0, .int .i64 0, .int .i64 0, .int .i64 0, .int .i64 0, .bool false, .int .i64 0]).below hb
  rw [World.size_alloc] at bx
  obtain ⟨_, _, _, _, _, _, _, _, _, _⟩ := bx.ten
  obtain ⟨_, _, _, _, _, _, _, _, _, _⟩ := bx.tenf
  have hlt : w.heap.size + 1 < w1.heap.size := by omega
  have HB : Hid (Below w.heap.size w w1) := (below_two _ _ _).trans (hb.mono (by simp; omega))
  clear hb bx hs
  go_wp2_with fail
  refine bodyPost_ret (v := .agg #[.int .i64 k, .int .i64 x, .int .i64 y, .int .i64 st, .int .i64 u, .int .i64 v, .int .i64 ww, .int .i64 r, .bool true, .int .i64 0]) (by simp only [results, Tryd.results65]; go_simp) rfl ⟨rfl, ?_⟩
  exact (((((((((HB.out.setCell (Nat.le_succ _) _).setCell (Nat.le_succ _) _).setCell (Nat.le_succ _) _).setCell (Nat.le_succ _) _).setCell (Nat.le_succ _) _).setCell (Nat.le_succ _) _).setCell (Nat.le_succ _) _).setCell (Nat.le_succ _) _).setCell (Nat.le_succ _) _).setCell (Nat.le_succ _) _

set_option maxRecDepth 100000 in
set_option maxHeartbeats 1000000 in
theorem rsecond_on7 (k x y st u v ww r : Int) (dn : Bool) (res : Int) (w : World) (hu : (u == v) = false) (hk : (k == 3) = false) :
    Calls Tryd.prog 65 #[.agg #[.int .i64 k, .int .i64 x, .int .i64 y, .int .i64 st, .int .i64 u, .int .i64 v, .int .i64 ww, .int .i64 r, .bool dn, .int .i64 res]] w fun e w' => e = .returned (.agg #[.int .i64 k, .int .i64 x, .int .i64 y, .int .i64 7, .int .i64 u, .int .i64 v, .int .i64 ww, .int .i64 r, .bool dn, .int .i64 res]) ∧ Below w.heap.size w w' := by
  go_enter Tryd.func65, Tryd.ntmps65
  go_wp2_with fail
  refine bodyPost_ret (v := .agg #[.int .i64 k, .int .i64 x, .int .i64 y, .int .i64 7, .int .i64 u, .int .i64 v, .int .i64 ww, .int .i64 r, .bool dn, .int .i64 res]) (by simp only [results, Tryd.results65]; go_simp) rfl ⟨rfl, ?_⟩
  exact below_two _ _ _

set_option maxRecDepth 100000 in
set_option maxHeartbeats 1000000 in
theorem rsecond_on8 (k x y st u v ww r : Int) (dn : Bool) (res : Int) (w : World) (hu : (u == v) = false) (hk : (k == 3) = true) :
    Calls Tryd.prog 65 #[.agg #[.int .i64 k, .int .i64 x, .int .i64 y, .int .i64 st, .int .i64 u, .int .i64 v, .int .i64 ww, .int .i64 r, .bool dn, .int .i64 res]] w fun e w' => e = .returned (.agg #[.int .i64 k, .int .i64 x, .int .i64 y, .int .i64 8, .int .i64 u, .int .i64 v, .int .i64 ww, .int .i64 r, .bool dn, .int .i64 res]) ∧ Below w.heap.size w w' := by
  go_enter Tryd.func65, Tryd.ntmps65
  go_wp2_with fail
  refine bodyPost_ret (v := .agg #[.int .i64 k, .int .i64 x, .int .i64 y, .int .i64 8, .int .i64 u, .int .i64 v, .int .i64 ww, .int .i64 r, .bool dn, .int .i64 res]) (by simp only [results, Tryd.results65]; go_simp) rfl ⟨rfl, ?_⟩
  exact below_two _ _ _


end Go.Proofs.YthhcchdjeeigpaaDoor
