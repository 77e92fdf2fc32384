/- Contracts of both Steps, whatever the task, Y of a find being any number. The plain mathematics of bits.OnesCount64: sums in bytes. No program. Contracts of math/bits' OnesCount64 and TrailingZeros64. -/
import Derived.Test.YtpfcpeljfgmjgaaDoorZpi
import Derived.Test.YtpfcpeljfgmjgaaDoorZpj
import Derived.Test.YtpfcpeljfgmjgaaDoorZpk
import Derived.Lib.BitFns
import Derived.Test.YtpfcpeljfgmjgaaDoorProg
import Derived.Test.YtpfcpeljfgmjgaaDoorZpa
import Derived.Shelf.Spec.TrailingZeros
namespace Go.Proofs.YtpfcpeljfgmjgaaDoor
open Go.RowKit
set_option linter.unusedVariables false
set_option linter.unusedSimpArgs false

/-- V of a task: of a find it is Y all along. -/
def tV (t : Tk) (y : Int) : Int := if t.k = 1 then y else t.v
def tcells (t : Tk) (y : Int) : List Value := [.int .i64 (t.k : Int), .int .i64 (t.x : Int), .int .i64 y, .int .i64 (t.st : Int), .int .i64 (t.u : Int), .int .i64 (tV t y), .int .i64 (t.w : Int), .int .i64 (t.r : Int), .bool t.dn, .int .i64 (t.res : Int)]

set_option maxRecDepth 100000 in
set_option maxHeartbeats 1000000 in
theorem gstep_any (a b : Option Addr) (la ca cb : Nat) (pr : List Int) (up : List Nat) (t : Tk) (y : Int) (w : World) {lo hi lo2 hi2 : Nat} (I : Inv la pr up t) (hy : t.k ≠ 1 → y = (t.y : Int))
    (hp : RowN lo hi w a la up) (hhi : hi ≤ w.heap.size) (hq : Row lo2 hi2 w b la pr) (hhi2 : hi2 ≤ w.heap.size) (hm : la ≤ 1000000) (hdn : t.dn = false) :
    Calls Tryd.prog 73 #[.slice a la ca, .slice b la cb, .agg (tcells t y).toArray] w fun e w' =>
      ∃ g c, e = .returned (.tuple #[.slice (some ⟨g, 0, none⟩) la c, .agg (tcells (tks up pr t) y).toArray]) ∧ w.heap.size ≤ g ∧ Own w' g (ups up pr t) ∧ Below w.heap.size w w' := by
  by_cases hk : t.k = 1
  · have un := I.un
    have wn := I.wn
    have rn := I.rn
    have s1 := I.s1
    have kk := I.kk
    obtain ⟨k, x, y0, st, u, v, ww, r, dn, res⟩ := t
    dsimp only at un wn rn hk s1 kk hdn
    subst hk hdn
    have hst : st = 1 ∨ st = 2 ∨ st = 3 := by
      have : ¬ 4 ≤ st := fun h => kk h rfl
      omega
    rcases hst with rfl | rfl | rfl
    · by_cases e : el up u = u
      · have e1 : tks up pr ⟨1, x, y0, 1, u, v, ww, r, false, res⟩ = ⟨1, x, y0, 1, u, v, u, r, true, u⟩ := by simp [tks, Tk.fst, Tk.fin, e]
        have e2 : ups up pr ⟨1, x, y0, 1, u, v, ww, r, false, res⟩ = up := by simp [ups]
        rw [e1, e2]
        exact jstep_1r a b la ca cb pr up 1 x y u y ww r res w 1 true u hp hhi hq hhi2 un wn rn hm e (.inl ⟨by omega, rfl, rfl, rfl⟩)
      · have e1 : tks up pr ⟨1, x, y0, 1, u, v, ww, r, false, res⟩ = ⟨1, x, y0, 2, u, v, (el up u), r, false, res⟩ := by simp [tks, e]
        have e2 : ups up pr ⟨1, x, y0, 1, u, v, ww, r, false, res⟩ = up := by simp [ups]
        rw [e1, e2]
        exact jstep_1n a b la ca cb pr up 1 x y u y ww r res w hp hhi hq hhi2 un wn rn hm e
    · by_cases e : el up ww = ww
      · have e1 : tks up pr ⟨1, x, y0, 2, u, v, ww, r, false, res⟩ = ⟨1, x, y0, 2, ww, v, ww, ww, true, ww⟩ := by simp [tks, Tk.fst, Tk.fin, e]
        have e2 : ups up pr ⟨1, x, y0, 2, u, v, ww, r, false, res⟩ = up := by simp [ups]
        rw [e1, e2]
        exact jstep_2r a b la ca cb pr up 1 x y u y ww r res w 2 true ww hp hhi hq hhi2 un wn rn hm e (.inl ⟨by omega, rfl, rfl, rfl⟩)
      · have e1 : tks up pr ⟨1, x, y0, 2, u, v, ww, r, false, res⟩ = ⟨1, x, y0, 3, u, v, ww, (el up ww), false, res⟩ := by simp [tks, e]
        have e2 : ups up pr ⟨1, x, y0, 2, u, v, ww, r, false, res⟩ = up := by simp [ups]
        rw [e1, e2]
        exact jstep_2n a b la ca cb pr up 1 x y u y ww r res w hp hhi hq hhi2 un wn rn hm e
    · have e1 : tks up pr ⟨1, x, y0, 3, u, v, ww, r, false, res⟩ = ⟨1, x, y0, 1, ww, v, ww, r, false, res⟩ := by simp [tks]
      by_cases e : el up u = ww
      · have e2 : ups up pr ⟨1, x, y0, 3, u, v, ww, r, false, res⟩ = up.set u r := by simp [ups, e]
        rw [e1, e2]
        exact jstep_3y a b la ca cb pr up 1 x y u y ww r res w hp hhi hq hhi2 un wn rn hm e
      · have e2 : ups up pr ⟨1, x, y0, 3, u, v, ww, r, false, res⟩ = up := by simp [ups, e]
        rw [e1, e2]
        exact jstep_3n a b la ca cb pr up 1 x y u y ww r res w hp hhi hq hhi2 un wn rn hm e
  · have h := step_any a b la ca cb pr up t w I hp hhi hq hhi2 hm
    have e := tks_keeps up pr t
    have e1 : (tcells t y).toArray = t.cells.toArray := by simp [tcells, Tk.cells, tV, hk, hy hk]
    have e2 : (tcells (tks up pr t) y).toArray = (tks up pr t).cells.toArray := by simp [tcells, Tk.cells, tV, e.1, e.2.2, hk, hy hk]
    rw [e1, e2]
    exact h

set_option maxRecDepth 100000 in
set_option maxHeartbeats 1000000 in
theorem rgstep_any (a b : Option Addr) (la ca cb : Nat) (pr : List Int) (up : List Nat) (t : Tk) (y : Int) (w : World) {lo hi lo2 hi2 : Nat} (I : Inv la pr up t) (hy : t.k ≠ 1 → y = (t.y : Int))
    (hp : RowN lo hi w a la up) (hhi : hi ≤ w.heap.size) (hq : Row lo2 hi2 w b la pr) (hhi2 : hi2 ≤ w.heap.size) (hm : la ≤ 1000000) (hdn : t.dn = false) :
    Calls Tryd.prog 46 #[.slice a la ca, .slice b la cb, .agg (tcells t y).toArray] w fun e w' =>
      ∃ g c, e = .returned (.agg (.slice (some ⟨g, 0, none⟩) la c :: tcells (tks up pr t) y).toArray) ∧ w.heap.size ≤ g ∧ Own w' g (ups up pr t) ∧ Below w.heap.size w w' := by
  by_cases hk : t.k = 1
  · have un := I.un
    have wn := I.wn
    have rn := I.rn
    have s1 := I.s1
    have kk := I.kk
    obtain ⟨k, x, y0, st, u, v, ww, r, dn, res⟩ := t
    dsimp only at un wn rn hk s1 kk hdn
    subst hk hdn
    have hst : st = 1 ∨ st = 2 ∨ st = 3 := by
      have : ¬ 4 ≤ st := fun h => kk h rfl
      omega
    rcases hst with rfl | rfl | rfl
    · by_cases e : el up u = u
      · have e1 : tks up pr ⟨1, x, y0, 1, u, v, ww, r, false, res⟩ = ⟨1, x, y0, 1, u, v, u, r, true, u⟩ := by simp [tks, Tk.fst, Tk.fin, e]
        have e2 : ups up pr ⟨1, x, y0, 1, u, v, ww, r, false, res⟩ = up := by simp [ups]
        rw [e1, e2]
        exact jrstep_1r a b la ca cb pr up 1 x y u y ww r res w 1 true u hp hhi hq hhi2 un wn rn hm e (.inl ⟨by omega, rfl, rfl, rfl⟩)
      · have e1 : tks up pr ⟨1, x, y0, 1, u, v, ww, r, false, res⟩ = ⟨1, x, y0, 2, u, v, (el up u), r, false, res⟩ := by simp [tks, e]
        have e2 : ups up pr ⟨1, x, y0, 1, u, v, ww, r, false, res⟩ = up := by simp [ups]
        rw [e1, e2]
        exact jrstep_1n a b la ca cb pr up 1 x y u y ww r res w hp hhi hq hhi2 un wn rn hm e
    · by_cases e : el up ww = ww
      · have e1 : tks up pr ⟨1, x, y0, 2, u, v, ww, r, false, res⟩ = ⟨1, x, y0, 2, ww, v, ww, ww, true, ww⟩ := by simp [tks, Tk.fst, Tk.fin, e]
        have e2 : ups up pr ⟨1, x, y0, 2, u, v, ww, r, false, res⟩ = up := by simp [ups]
        rw [e1, e2]
        exact jrstep_2r a b la ca cb pr up 1 x y u y ww r res w 2 true ww hp hhi hq hhi2 un wn rn hm e (.inl ⟨by omega, rfl, rfl, rfl⟩)
      · have e1 : tks up pr ⟨1, x, y0, 2, u, v, ww, r, false, res⟩ = ⟨1, x, y0, 3, u, v, ww, (el up ww), false, res⟩ := by simp [tks, e]
        have e2 : ups up pr ⟨1, x, y0, 2, u, v, ww, r, false, res⟩ = up := by simp [ups]
        rw [e1, e2]
        exact jrstep_2n a b la ca cb pr up 1 x y u y ww r res w hp hhi hq hhi2 un wn rn hm e
    · have e1 : tks up pr ⟨1, x, y0, 3, u, v, ww, r, false, res⟩ = ⟨1, x, y0, 1, ww, v, ww, r, false, res⟩ := by simp [tks]
      by_cases e : el up u = ww
      · have e2 : ups up pr ⟨1, x, y0, 3, u, v, ww, r, false, res⟩ = up.set u r := by simp [ups, e]
        rw [e1, e2]
        exact jrstep_3y a b la ca cb pr up 1 x y u y ww r res w hp hhi hq hhi2 un wn rn hm e
      · have e2 : ups up pr ⟨1, x, y0, 3, u, v, ww, r, false, res⟩ = up := by simp [ups, e]
        rw [e1, e2]
        exact jrstep_3n a b la ca cb pr up 1 x y u y ww r res w hp hhi hq hhi2 un wn rn hm e
  · have h := rstep_any a b la ca cb pr up t w I hp hhi hq hhi2 hm
    have e := tks_keeps up pr t
    have e1 : (tcells t y).toArray = t.cells.toArray := by simp [tcells, Tk.cells, tV, hk, hy hk]
    have e2 : tcells (tks up pr t) y = (tks up pr t).cells := by simp [tcells, Tk.cells, tV, e.1, e.2.2, hk, hy hk]
    rw [e1, e2]
    exact h

end Go.Proofs.YtpfcpeljfgmjgaaDoor

namespace Go.Proofs.YtpfcpeljfgmjgaaDoor

/-- A number by its bytes, the first the lowest. -/
def bv : List Nat → Nat
  | [] => 0
  | b :: r => b + 256 * bv r
def mask (c : Nat) : Nat → Nat
  | 0 => 0
  | n + 1 => c + 256 * mask c n

theorem and_split (a c y d : Nat) (ha : a < 256) (hc : c < 256) : (a + 256 * y) &&& (c + 256 * d) = (a &&& c) + 256 * (y &&& d) := by
  have hac : a &&& c < 2 ^ 8 := Nat.and_lt_two_pow _ hc
  apply Nat.eq_of_testBit_eq
  intro i
  have e : ∀ (p q : Nat), p < 2 ^ 8 → (p + 256 * q).testBit i = if i < 8 then p.testBit i else q.testBit (i - 8) := by
    intro p q hp
    rw [Nat.add_comm]
    exact Nat.testBit_two_pow_mul_add q hp i
  rw [Nat.testBit_and, e a y ha, e c d hc, e _ _ hac]
  split <;> simp [Nat.testBit_and]

def p1 (b : Nat) : Nat := ((b / 2) &&& 85) + (b &&& 85)
def p2 (b : Nat) : Nat := ((b / 4) &&& 51) + (b &&& 51)
def p3 (b : Nat) : Nat := b / 16 + b % 16

theorem low1 : ∀ (a : Fin 256) (t : Fin 2), (a.val / 2 + 128 * t.val) &&& 85 = (a.val / 2) &&& 85 := by decide +kernel
theorem low2 : ∀ (a : Fin 256) (t : Fin 4), (a.val / 4 + 64 * t.val) &&& 51 = (a.val / 4) &&& 51 := by decide +kernel

theorem s1 : ∀ bs : List Nat, (∀ b ∈ bs, b < 256) → ((bv bs / 2) &&& mask 85 bs.length) + (bv bs &&& mask 85 bs.length) = bv (bs.map p1)
  | [], _ => rfl
  | b :: r, h => by
    have hb : b < 256 := h b (by simp)
    have ih := s1 r (fun x hx => h x (by simp [hx]))
    have l := low1 ⟨b, hb⟩ ⟨bv r % 2, by omega⟩
    simp only at l
    have e : (b + 256 * bv r) / 2 = (b / 2 + 128 * (bv r % 2)) + 256 * (bv r / 2) := by omega
    simp only [bv, mask, List.length_cons, List.map_cons, e]
    rw [and_split _ _ _ _ (by omega) (by decide), and_split _ _ _ _ hb (by decide), l, ← ih]
    unfold p1; omega

theorem s2 : ∀ bs : List Nat, (∀ b ∈ bs, b < 256) → ((bv bs / 4) &&& mask 51 bs.length) + (bv bs &&& mask 51 bs.length) = bv (bs.map p2)
  | [], _ => rfl
  | b :: r, h => by
    have hb : b < 256 := h b (by simp)
    have ih := s2 r (fun x hx => h x (by simp [hx]))
    have l := low2 ⟨b, hb⟩ ⟨bv r % 4, by omega⟩
    simp only at l
    have e : (b + 256 * bv r) / 4 = (b / 4 + 64 * (bv r % 4)) + 256 * (bv r / 4) := by omega
    simp only [bv, mask, List.length_cons, List.map_cons, e]
    rw [and_split _ _ _ _ (by omega) (by decide), and_split _ _ _ _ hb (by decide), l, ← ih]
    unfold p2; omega

theorem low4 (r : List Nat) (h : ∀ b ∈ r, b % 16 ≤ 4) : bv r % 16 ≤ 4 := by
  cases r with
  | nil => simp [bv]
  | cons b r => have := h b (by simp); simp only [bv]; omega

theorem s3 : ∀ bs : List Nat, (∀ b ∈ bs, b % 16 ≤ 4 ∧ b / 16 ≤ 4) → ((bv bs / 16 + bv bs) &&& mask 15 bs.length) = bv (bs.map p3)
  | [], _ => rfl
  | b :: r, h => by
    have hb := h b (by simp)
    have ih := s3 r (fun x hx => h x (by simp [hx]))
    have l := low4 r (fun x hx => (h x (by simp [hx])).1)
    have e : (b + 256 * bv r) / 16 + (b + 256 * bv r) = (b / 16 + 16 * (bv r % 16) + b) + 256 * (bv r / 16 + bv r) := by omega
    simp only [bv, mask, List.length_cons, List.map_cons, e]
    rw [and_split _ _ _ _ (by omega) (by decide), ih, show (15 : Nat) = 2 ^ 4 - 1 from rfl, Nat.and_two_pow_sub_one_eq_mod]
    unfold p3; omega

theorem byte_pop : ∀ b : Fin 256, p3 (p2 (p1 b.val)) = Lib.popAux 8 b.val ∧ p1 b.val < 256 ∧ p2 (p1 b.val) % 16 ≤ 4 ∧ p2 (p1 b.val) / 16 ≤ 4 ∧ Lib.popAux 8 b.val ≤ 8 := by decide +kernel

theorem pop_split (f b y : Nat) (hb : b < 256) : Lib.popAux (f + 8) (b + 256 * y) = Lib.popAux 8 b + Lib.popAux f y := by
  simp only [Lib.popAux]
  have e : (b + 256 * y) / 2 / 2 / 2 / 2 / 2 / 2 / 2 / 2 = y := by omega
  rw [e]; omega

theorem pop_bytes : ∀ bs : List Nat, (∀ b ∈ bs, b < 256) → Lib.popAux (8 * bs.length) (bv bs) = (bs.map (Lib.popAux 8)).sum
  | [], _ => rfl
  | b :: r, h => by
    have ih := pop_bytes r (fun x hx => h x (by simp [hx]))
    simp only [bv, List.length_cons, List.map_cons, List.sum_cons]
    rw [show 8 * (r.length + 1) = 8 * r.length + 8 from by omega, pop_split _ _ _ (h b (by simp)), ih]

theorem popAux_wd : ∀ (l : List Bool) (f : Nat), l.length ≤ f → Lib.popAux f (wd l) = (on 0 l).length
  | [], f, _ => by
    have : ∀ f, Lib.popAux f 0 = 0 := by intro f; induction f with
      | zero => rfl
      | succ f ih => simp [Lib.popAux, ih]
    simp [wd, on, this]
  | b :: r, 0, h => by simp at h
  | b :: r, f + 1, h => by
    have ih := popAux_wd r f (by simpa using h)
    have e1 : wd (b :: r) % 2 = b.toNat := by cases b <;> simp [wd] <;> omega
    have e2 : wd (b :: r) / 2 = wd r := by cases b <;> simp [wd] <;> omega
    have e3 : (on (0 + 1) r).length = (on 0 r).length := by rw [on_shift]; simp
    simp only [Lib.popAux, e1, e2, ih]
    cases b <;> simp only [on, if_true, List.length_cons, Bool.toNat_true, Bool.toNat_false] <;> simp [e3] <;> omega

/-- OnesCount64's own sums. -/
def t1 (x : Nat) : Nat := ((x / 2) &&& 6148914691236517205) + (x &&& 6148914691236517205)
def t2 (x : Nat) : Nat := ((x / 4) &&& 3689348814741910323) + (x &&& 3689348814741910323)
def t3 (x : Nat) : Nat := (x / 16 + x) &&& 1085102592571150095
def swar3 (x : Nat) : Nat := t3 (t2 (t1 x))

def bytes8 (x : Nat) : List Nat := [x % 256, x / 256 % 256, x / 65536 % 256, x / 16777216 % 256, x / 4294967296 % 256, x / 1099511627776 % 256, x / 281474976710656 % 256, x / 72057594037927936 % 256]

theorem bv_bytes8 (x : Nat) (h : x < 18446744073709551616) : bv (bytes8 x) = x := by simp only [bytes8, bv]; omega

theorem swar3_eq (x : Nat) (h : x < 18446744073709551616) : swar3 x = bv ((bytes8 x).map (Lib.popAux 8)) := by
  have hb : ∀ b ∈ bytes8 x, b < 256 := by intro b hb; simp only [bytes8, List.mem_cons, List.not_mem_nil, or_false] at hb; omega
  have h1 := s1 (bytes8 x) hb
  rw [bv_bytes8 x h] at h1
  have h2 := s2 ((bytes8 x).map p1) (by intro b hbb; obtain ⟨a, ha, rfl⟩ := List.mem_map.1 hbb; exact (byte_pop ⟨a, hb a ha⟩).2.1)
  have h3 := s3 (((bytes8 x).map p1).map p2) (by
    intro b hbb
    obtain ⟨a, ha, rfl⟩ := List.mem_map.1 hbb
    obtain ⟨a', ha', rfl⟩ := List.mem_map.1 ha
    have := byte_pop ⟨a', hb a' ha'⟩
    exact ⟨this.2.2.1, this.2.2.2.1⟩)
  have l1 : (bytes8 x).length = 8 := rfl
  rw [l1, show mask 85 8 = 6148914691236517205 from rfl] at h1
  rw [List.length_map, l1, show mask 51 8 = 3689348814741910323 from rfl, ← h1] at h2
  rw [List.length_map, List.length_map, l1, show mask 15 8 = 1085102592571150095 from rfl, ← h2] at h3
  have h4 : swar3 x = bv (((bytes8 x).map p1).map p2 |>.map p3) := h3
  rw [h4]
  refine congrArg bv ?_
  rw [List.map_map, List.map_map]
  apply List.map_congr_left
  intro b hbb
  exact (byte_pop ⟨b, hb b hbb⟩).1

theorem div_of (n r q x : Nat) (hr : r < n) (hx : x = r + n * q) : x / n = q := by
  subst hx; rw [Nat.add_mul_div_left _ _ (by omega), Nat.div_eq_of_lt hr, Nat.zero_add]
theorem mod_of (n r q x : Nat) (hr : r < n) (hx : x = r + n * q) : x % n = r := by
  subst hx; rw [Nat.add_mul_mod_self_left, Nat.mod_eq_of_lt hr]

theorem sum_a (c0 c1 c2 c3 c4 c5 c6 c7 y : Nat) (h0 : c0 ≤ 8) (hy : y = c0 + 256 * (c1 + 256 * (c2 + 256 * (c3 + 256 * (c4 + 256 * (c5 + 256 * (c6 + 256 * (c7 + 256 * 0)))))))) :
    y + y / 256 = ((c0 + c1) + 256 * (c1 + c2)) + 65536 * ((c2 + c3) + 256 * (c3 + c4) + 65536 * (c4 + c5) + 16777216 * (c5 + c6) + 4294967296 * (c6 + c7) + 1099511627776 * c7) := by
  rw [div_of 256 c0 _ y (by omega) hy, hy]
  omega
theorem sum_b (d0 d1 d2 d3 d4 d5 d6 d7 a : Nat) (h0 : d0 ≤ 16) (h1 : d1 ≤ 16) (ha : a = (d0 + 256 * d1) + 65536 * (d2 + 256 * d3 + 65536 * d4 + 16777216 * d5 + 4294967296 * d6 + 1099511627776 * d7)) :
    a + a / 65536 = (d0 + d2) + 256 * (d1 + d3) + 65536 * (d2 + d4) + 16777216 * (d3 + d5) + 4294967296 * ((d4 + d6) + 256 * (d5 + d7) + 65536 * d6 + 16777216 * d7) := by
  rw [div_of 65536 _ _ a (by omega) ha, ha]
  omega
theorem sum_c (e0 e1 e2 e3 e4 e5 e6 e7 b : Nat) (h0 : e0 ≤ 64) (h1 : e1 ≤ 64) (h2 : e2 ≤ 64) (h3 : e3 ≤ 64) (hs : e0 + e4 ≤ 64) (hb : b = (e0 + 256 * e1 + 65536 * e2 + 16777216 * e3) + 4294967296 * (e4 + 256 * e5 + 65536 * e6 + 16777216 * e7)) :
    (b + b / 4294967296) % 128 = e0 + e4 := by
  rw [div_of 4294967296 _ _ b (by omega) hb]
  refine mod_of 128 _ (2 * (e1 + e5) + 512 * (e2 + e6) + 131072 * (e3 + e7) + 33554432 * (e4 + 256 * e5 + 65536 * e6 + 16777216 * e7)) _ (by omega) ?_
  rw [hb]; omega
theorem le4 {a b c d : Nat} (h0 : a ≤ 8) (h1 : b ≤ 8) (h2 : c ≤ 8) (h3 : d ≤ 8) : a + b + (c + d) ≤ 64 := by omega
theorem le4' {a b c d : Nat} (h0 : a ≤ 8) (h1 : b ≤ 8) (h2 : c ≤ 8) (h3 : d ≤ 8) : a + b + (c + d) ≤ 32 := by omega
theorem lt2 {a b q m n : Nat} (h : a = b + q) (hq : q ≤ b) (hb : b < m) (hn : 2 * m ≤ n) : a < n := by omega
theorem assoc8 (a b c d e f g h : Nat) : a + b + (c + d) + (e + f + (g + h)) = a + (b + (c + (d + (e + (f + (g + (h + 0))))))) := by omega
theorem sum_y (c0 c1 c2 c3 c4 c5 c6 c7 y : Nat) (h0 : c0 ≤ 8) (h1 : c1 ≤ 8) (h2 : c2 ≤ 8) (h3 : c3 ≤ 8) (h4 : c4 ≤ 8) (h5 : c5 ≤ 8) (h6 : c6 ≤ 8) (h7 : c7 ≤ 8)
    (hy : y = c0 + 256 * (c1 + 256 * (c2 + 256 * (c3 + 256 * (c4 + 256 * (c5 + 256 * (c6 + 256 * (c7 + 256 * 0)))))))) : y < 1152921504606846976 := by
  omega
theorem sum_steps (c0 c1 c2 c3 c4 c5 c6 c7 y a b c : Nat) (h0 : c0 ≤ 8) (h1 : c1 ≤ 8) (h2 : c2 ≤ 8) (h3 : c3 ≤ 8) (h4 : c4 ≤ 8) (h5 : c5 ≤ 8) (h6 : c6 ≤ 8) (h7 : c7 ≤ 8)
    (hy : y = c0 + 256 * (c1 + 256 * (c2 + 256 * (c3 + 256 * (c4 + 256 * (c5 + 256 * (c6 + 256 * (c7 + 256 * 0))))))))
    (ha0 : a = y + y / 256) (hb0 : b = a + a / 65536) (hc0 : c = b + b / 4294967296) :
    c < 18446744073709551616 ∧ b < 18446744073709551616 ∧ a < 18446744073709551616 ∧ c % 128 = c0 + (c1 + (c2 + (c3 + (c4 + (c5 + (c6 + (c7 + 0))))))) := by
  have hyl := sum_y c0 c1 c2 c3 c4 c5 c6 c7 y h0 h1 h2 h3 h4 h5 h6 h7 hy
  have ha := ha0.trans (sum_a c0 c1 c2 c3 c4 c5 c6 c7 y h0 hy)
  have hb := hb0.trans (sum_b (c0 + c1) (c1 + c2) (c2 + c3) (c3 + c4) (c4 + c5) (c5 + c6) (c6 + c7) c7 a (Nat.add_le_add h0 h1) (Nat.add_le_add h1 h2) ha)
  have hc := sum_c (c0 + c1 + (c2 + c3)) (c1 + c2 + (c3 + c4)) (c2 + c3 + (c4 + c5)) (c3 + c4 + (c5 + c6)) (c4 + c5 + (c6 + c7)) (c5 + c6 + c7) (c6 + c7) c7 b (le4 h0 h1 h2 h3) (le4 h1 h2 h3 h4) (le4 h2 h3 h4 h5) (le4 h3 h4 h5 h6) (Nat.add_le_add (le4' h0 h1 h2 h3) (le4' h4 h5 h6 h7)) hb
  rw [← hc0] at hc
  have q1 := Nat.div_le_self y 256
  have q2 := Nat.div_le_self a 65536
  have q3 := Nat.div_le_self b 4294967296
  clear ha hb hy
  have ha2 : a < 2305843009213693952 := lt2 ha0 q1 hyl (by decide)
  have hb2 : b < 4611686018427387904 := lt2 hb0 q2 ha2 (by decide)
  have hc2 : c < 9223372036854775808 := lt2 hc0 q3 hb2 (by decide)
  refine ⟨Nat.lt_trans hc2 (by decide), Nat.lt_trans hb2 (by decide), Nat.lt_trans ha2 (by decide), ?_⟩
  rw [hc]
  exact assoc8 _ _ _ _ _ _ _ _

theorem swar_sum (x : Nat) (h : x < 18446744073709551616) :
    let y := swar3 x
    let a := y + y / 256
    let b := a + a / 65536
    let c := b + b / 4294967296
    c < 18446744073709551616 ∧ b < 18446744073709551616 ∧ a < 18446744073709551616 ∧ c % 128 = Lib.popAux 64 x := by
  have hs := swar3_eq x h
  have hb : ∀ b ∈ bytes8 x, b < 256 := by intro b hb; simp only [bytes8, List.mem_cons, List.not_mem_nil, or_false] at hb; omega
  have hp := pop_bytes (bytes8 x) hb
  rw [bv_bytes8 x h] at hp
  have hle : ∀ b ∈ bytes8 x, Lib.popAux 8 b ≤ 8 := fun b hbb => (byte_pop ⟨b, hb b hbb⟩).2.2.2.2
  have e8 : 8 * (bytes8 x).length = 64 := rfl
  rw [e8] at hp
  rw [hs, hp]
  generalize hl : bytes8 x = l at *
  obtain ⟨b0, b1, b2, b3, b4, b5, b6, b7, rfl⟩ : ∃ b0 b1 b2 b3 b4 b5 b6 b7, l = [b0, b1, b2, b3, b4, b5, b6, b7] := ⟨_, _, _, _, _, _, _, _, hl.symm⟩
  clear hl hs hp e8 hb
  simp only [List.mem_cons, List.not_mem_nil, or_false, forall_eq_or_imp, forall_eq] at hle
  simp only [List.map_cons, List.map_nil, bv, List.sum_cons, List.sum_nil]
  obtain ⟨h0, h1, h2, h3, h4, h5, h6, h7⟩ := hle
  exact sum_steps _ _ _ _ _ _ _ _ _ _ _ _ h0 h1 h2 h3 h4 h5 h6 h7 rfl rfl rfl rfl

end Go.Proofs.YtpfcpeljfgmjgaaDoor

namespace Go.Proofs.YtpfcpeljfgmjgaaDoor
open Go.RowKit

/-- The table of math/bits lies in its variable. -/
def Tab (w : World) : Prop := TabAt 0 Lib.deBruijn64tab w

theorem Tab.lt {w : World} (h : Tab w) : 0 < w.heap.size := World.block_lt_of_cell? _ _ (h 0 (by decide))
theorem Tab.below {w w' : World} {B : Nat} (h : Tab w) (hb : Below B w w') (hB : 0 < B) : Tab w' :=
  fun j hj => (hb.cell (p := ⟨0, j, none⟩) hB).trans (h j hj)

set_option maxHeartbeats 1000000 in
theorem tz_core (x k idx : Nat) (w : World) (hx0 : ((x : Int) == 0) = false)
    (key : IntKind.u64.wrap (bits BinOp.and IntKind.u64 (x : Int) (IntKind.u64.wrap (-(x : Int))) * 285870213051353865) / 288230376151711744 = (idx : Int))
    (hi : idx < 64) (hk : k < 64) (hcell : w.cell? ⟨0, idx, none⟩ = some (.int .u8 k)) :
    Calls Tryd.prog 118 #[.int .u64 x] w fun e w' => e = .returned (.int .i64 k) ∧ w = w' := by
  go_enter Tryd.func118, Tryd.ntmps118
  go_wp2_with (simp only [key])
  go_ret
  exact ⟨rfl, rfl⟩

/-- TrailingZeros64 of a number that is not 0. -/
theorem tz_any (l : List Bool) (x : Nat) (r : List Nat) (w : World) (hl : l.length ≤ 64) (h : on 0 l = x :: r) (hT : Tab w) :
    Calls Tryd.prog 118 #[.int .u64 (wd l)] w fun e w' => e = .returned (.int .i64 x) ∧ w = w' := by
  have hx0 : wd l ≠ 0 := by rw [Ne, wd_zero_iff l 0, h]; simp
  have hlt := wd_lt64 l hl
  have hc := ctz64_wd l x r hl h
  obtain ⟨hlow, hk⟩ := Lib.lowest_bit 64 (wd l) hx0 hlt
  obtain ⟨hi, htab⟩ := Lib.deBruijn64_at _ hk
  have hcell := hT _ hi
  rw [htab] at hcell
  rw [← hc]
  exact tz_core (wd l) _ _ w (by simp; omega) (tz64_key (wd l) _ hlt hx0 hlow) hi hk hcell

theorem ones_core (x y1 y2 y3 a b c r : Nat) (w : World)
    (k1 : IntKind.u64.wrap (bits BinOp.and IntKind.u64 ((x : Int) / 2) 6148914691236517205 + bits BinOp.and IntKind.u64 (x : Int) 6148914691236517205) = (y1 : Int))
    (k2 : IntKind.u64.wrap (bits BinOp.and IntKind.u64 ((y1 : Int) / 4) 3689348814741910323 + bits BinOp.and IntKind.u64 (y1 : Int) 3689348814741910323) = (y2 : Int))
    (k3 : bits BinOp.and IntKind.u64 (IntKind.u64.wrap ((y2 : Int) / 16 + (y2 : Int))) 1085102592571150095 = (y3 : Int))
    (k4 : IntKind.u64.wrap ((y3 : Int) + (y3 : Int) / 256) = (a : Int))
    (k5 : IntKind.u64.wrap ((a : Int) + (a : Int) / 65536) = (b : Int))
    (k6 : IntKind.u64.wrap ((b : Int) + (b : Int) / 4294967296) = (c : Int))
    (k7 : bits BinOp.and IntKind.i64 (wrap64 (c : Int)) 127 = (r : Int)) :
    Calls Tryd.prog 117 #[.int .u64 x] w fun e w' => e = .returned (.int .i64 r) ∧ w = w' := by
  go_enter Tryd.func117, Tryd.ntmps117
  go_wp2
  go_ret
  exact ⟨rfl, rfl⟩

theorem mask7_i64 (n : Int) : bits .and .i64 n 127 = n % 128 := by
  have hm : (BitVec.ofInt 64 127).toNat = 2 ^ 7 - 1 := by decide
  have key : (BitVec.ofInt 64 n &&& BitVec.ofInt 64 127).toNat = (n % ((2 ^ 64 : Nat) : Int)).toNat % 2 ^ 7 := by
    rw [BitVec.toNat_and, BitVec.toNat_ofInt, hm, Nat.and_two_pow_sub_one_eq_mod]
  show IntKind.i64.wrap ((BitVec.ofInt 64 n &&& BitVec.ofInt 64 127).toNat : Nat) = n % 128
  rw [key, IntKind.wrap_i64]
  omega

theorem and_u64_lit (a : Nat) (z : Int) (b : Nat) (hz : z = (b : Int)) (ha : a < 18446744073709551616) (hb : b < 18446744073709551616) : bits .and .u64 (a : Int) z = ((a &&& b : Nat) : Int) := by
  subst hz; exact bits_and_u64_nat a b ha hb

theorem wrap_u64_nat (n : Nat) (h : n < 18446744073709551616) : IntKind.u64.wrap (n : Int) = (n : Int) := by rw [IntKind.wrap_u64]; omega

theorem ones_key (x m d : Nat) (z e : Int) (hz : z = (m : Int)) (he : e = (d : Int)) (hx : x < 18446744073709551616) (hm : m < 9223372036854775808) :
    IntKind.u64.wrap (bits BinOp.and IntKind.u64 ((x : Int) / e) z + bits BinOp.and IntKind.u64 (x : Int) z) = (((x / d &&& m) + (x &&& m) : Nat) : Int) := by
  subst he
  have hd : x / d ≤ x := Nat.div_le_self _ _
  have h1 : x / d &&& m ≤ m := Nat.and_le_right
  have h2 : x &&& m ≤ m := Nat.and_le_right
  rw [show (x : Int) / (d : Int) = ((x / d : Nat) : Int) from by simp, and_u64_lit _ _ m hz (by omega) (by omega), and_u64_lit _ _ m hz hx (by omega), ← Int.natCast_add]
  exact wrap_u64_nat _ (by omega)

theorem wrap_add (x d : Nat) (e : Int) (he : e = (d : Int)) (h : x + x / d < 18446744073709551616) : IntKind.u64.wrap ((x : Int) + (x : Int) / e) = ((x + x / d : Nat) : Int) := by
  subst he
  rw [show (x : Int) / (d : Int) = ((x / d : Nat) : Int) from by simp, ← Int.natCast_add]
  exact wrap_u64_nat _ h

theorem wrap64_mod (c : Nat) : wrap64 (c : Int) % 128 = ((c % 128 : Nat) : Int) := by unfold wrap64; omega
theorem lt_q {y : Nat} (h : y < 7378697629483820647) : y / 16 + y < 18446744073709551616 := by omega

/-- OnesCount64 of a word of bits: how many are true. -/
theorem ones_any (l : List Bool) (w : World) (hl : l.length ≤ 64) :
    Calls Tryd.prog 117 #[.int .u64 (wd l)] w fun e w' => e = .returned (.int .i64 (on 0 l).length) ∧ w = w' := by
  have hx := wd_lt64 l hl
  rw [← popAux_wd l 64 hl]
  generalize wd l = x at *
  have m1 : t1 x < 12297829382473034411 := by
    have h1 : x / 2 &&& 6148914691236517205 ≤ 6148914691236517205 := Nat.and_le_right
    have h2 : x &&& 6148914691236517205 ≤ 6148914691236517205 := Nat.and_le_right
    unfold t1; omega
  have m2 : t2 (t1 x) < 7378697629483820647 := by
    have h1 : t1 x / 4 &&& 3689348814741910323 ≤ 3689348814741910323 := Nat.and_le_right
    have h2 : t1 x &&& 3689348814741910323 ≤ 3689348814741910323 := Nat.and_le_right
    unfold t2; omega
  obtain ⟨s1, s2, s3, s4⟩ := swar_sum x hx
  refine ones_core x (t1 x) (t2 (t1 x)) (swar3 x) _ _ _ _ w (ones_key x _ 2 _ _ rfl rfl hx (by decide)) (ones_key (t1 x) _ 4 _ _ rfl rfl (by omega) (by decide)) ?_ (wrap_add _ 256 _ rfl s3) (wrap_add _ 65536 _ rfl s2) (wrap_add _ 4294967296 _ rfl s1) ?_
  · rw [show ((t2 (t1 x) : Nat) : Int) / 16 = ((t2 (t1 x) / 16 : Nat) : Int) from by simp, ← Int.natCast_add, wrap_u64_nat _ (lt_q m2)]
    exact and_u64_lit _ _ 1085102592571150095 rfl (lt_q m2) (by decide)
  · rw [mask7_i64, wrap64_mod, s4]

end Go.Proofs.YtpfcpeljfgmjgaaDoor
