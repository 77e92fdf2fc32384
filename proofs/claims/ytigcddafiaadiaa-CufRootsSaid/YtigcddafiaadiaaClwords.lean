/- Words that several laws use: Step with its answer named; results; lists and cells that are one. -/
import Derived.Test.YtigcddafiaadiaaClall
import Derived.Deep.CutRange
namespace Go.Proofs.Ytigcddafiaadiaa
open Go.RowKit
set_option linter.unusedVariables false
set_option linter.unusedSimpArgs false

theorem step_t (a b : Option Addr) (la ca cb : Nat) (pr : List Int) (up : List Nat) (t : Tk) (w : World) {lo hi lo2 hi2 : Nat} (I : Inv la pr up t)
    (hp : RowN lo hi w a la up) (hhi : hi ≤ w.heap.size) (hq : Row lo2 hi2 w b la pr) (hhi2 : hi2 ≤ w.heap.size) (hm : la ≤ 1000000) (T : Tk) (hT : tks up pr t = T) (U : List Nat) (hU : ups up pr t = U) :
    Calls Try.prog 18 #[.slice a la ca, .slice b la cb, .agg #[.int .i64 (t.k : Int), .int .i64 (t.x : Int), .int .i64 (t.y : Int), .int .i64 (t.st : Int), .int .i64 (t.u : Int), .int .i64 (t.v : Int), .int .i64 (t.w : Int), .int .i64 (t.r : Int), .bool t.dn, .int .i64 (t.res : Int)]] w fun e w' =>
      ∃ g c, e = .returned (.tuple #[.slice (some ⟨g, 0, none⟩) la c, .agg #[.int .i64 (T.k : Int), .int .i64 (T.x : Int), .int .i64 (T.y : Int), .int .i64 (T.st : Int), .int .i64 (T.u : Int), .int .i64 (T.v : Int), .int .i64 (T.w : Int), .int .i64 (T.r : Int), .bool T.dn, .int .i64 (T.res : Int)]]) ∧ w.heap.size ≤ g ∧ Own w' g U ∧ Below w.heap.size w w' := by
  subst hT hU
  exact step_any a b la ca cb pr up t w I hp hhi hq hhi2 hm

/-- A result is no more than an element, or one. -/
theorem res_le {n : Nat} {pr : List Int} {up : List Nat} {t : Tk} (I : Inv n pr up t) (h : t.res ≤ n) : (tks up pr t).res ≤ n := by
  obtain ⟨k, x, y, st, u, v, w, r, dn, res⟩ := t
  have hst : st = 1 ∨ st = 2 ∨ st = 3 ∨ st = 4 ∨ st = 5 ∨ st = 6 ∨ st = 7 ∨ st = 8 := by have := I.s1; have := I.s8; dsimp only at *; omega
  have h1 := I.un
  have h2 := I.wn
  dsimp only at h h1 h2
  cases dn with
  | true => simpa [tks] using h
  | false =>
    rcases hst with rfl | rfl | rfl | rfl | rfl | rfl | rfl | rfl
    · by_cases e : el up u = u <;> by_cases k1 : k = 1 <;> simp [tks, Tk.fst, Tk.fin, e, k1] <;> omega
    · by_cases e : el up w = w <;> by_cases k1 : k = 1 <;> simp [tks, Tk.fst, Tk.fin, e, k1] <;> omega
    · simpa [tks] using h
    · by_cases e : el up v = v <;> by_cases k1 : k = 2 <;> by_cases uv : u = v <;> simp [tks, Tk.snd, Tk.fin, e, k1, uv] <;> omega
    · by_cases e : el up w = w <;> by_cases k1 : k = 2 <;> by_cases uv : u = w <;> simp [tks, Tk.snd, Tk.fin, e, k1, uv] <;> omega
    · simpa [tks] using h
    · by_cases e : el up u = u <;> simp [tks, Tk.fin, e] <;> omega
    · by_cases b : bel pr u v <;> by_cases e : el up u = u <;> by_cases e2 : el up v = v <;> simp [tks, Tk.fin, e, e2, b] <;> omega

theorem ints_same (a b : Option Addr) (n ca cb : Nat) (p : List Nat) (w : World) {l1 l2 h1 h2 : Nat} (hx : RowN l1 h1 w a n p) (hy : RowN l2 h2 w b n p) (hm : n ≤ 1000000) :
    Calls Try.prog 20 #[.slice a n ca, .slice b n cb] w fun e w' => e = .returned (.bool true) ∧ ∃ n, w' = w.drewN n := by
  have := ints_any a b n n ca cb _ _ w hx.ints hy.ints (by omega)
  simpa using this

theorem may_true (a b : Option Addr) (n ca cb : Nat) (up : List Nat) (pr : List Int) (w : World) {lo hi lo2 hi2 : Nat} (F : For n pr up) (hx : RowN lo hi w a n up) (hy : Row lo2 hi2 w b n pr) (hm : n ≤ 65536) :
    Calls Try.prog 11 #[.slice a n ca, .slice b n cb] w fun e w' => e = .returned (.bool true) ∧ ∃ n, w' = w.drewN n := by
  have := may_any a b n ca n cb _ pr w hx.ints hy (by omega) (by omega)
  rwa [mayU_for F hy.1 hm] at this
theorem rmay_true (a b : Option Addr) (n ca cb : Nat) (up : List Nat) (pr : List Int) (w : World) {lo hi lo2 hi2 : Nat} (F : For n pr up) (hx : RowN lo hi w a n up) (hy : Row lo2 hi2 w b n pr) (hm : n ≤ 65536) :
    Calls Try.prog 12 #[.slice a n ca, .slice b n cb] w fun e w' => e = .returned (.bool true) ∧ ∃ n, w' = w.drewN n := by
  have := rmay_any a b n ca n cb _ pr w hx.ints hy (by omega) (by omega)
  rwa [mayU_for F hy.1 hm] at this

theorem Two.rowN {lo hi n : Nat} {w w' : World} {a : Option Addr} {p : List Nat} {b1 b2 : Nat} (h : RowN lo hi w a n p) (ht : Two b1 b2 w w') (hh : hi ≤ w.heap.size) (h1 : b1 < lo ∨ hi ≤ b1) (h2 : b2 < lo ∨ hi ≤ b2) : RowN lo hi w' a n p := h.two ht hh h1 h2

/-- Three bytes make an operation, and that a task. -/
theorem three_bytes {la : Nat} {xs : List Nat} {a : Option Addr} {w : World} (h : RowY 0 w.heap.size w a la xs) (hl : 3 ≤ la) : ∃ b off, a = some ⟨b, off, none⟩ ∧ b < w.heap.size ∧ ∀ i, i < la → w.cell? ⟨b, off + i, none⟩ = some (.int .u8 ((xs.getD i 0 : Nat) : Int)) := by
  obtain ⟨b, off, e, _, h1, h2⟩ := h.2.resolve_left (by omega)
  exact ⟨b, off, e, h1, h2⟩

end Go.Proofs.Ytigcddafiaadiaa
