/- Contracts of math/bits' OnesCount64 and TrailingZeros64. -/
import Derived.Test.YthhcchdjeeigpaaDoorProg
import Derived.Test.YthhcchdjeeigpaaDoorBase
import Derived.Test.YthhcchdjeeigpaaDoorPop
import Derived.Shelf.Spec.TrailingZeros
namespace Go.Proofs.YthhcchdjeeigpaaDoor
open Go.RowKit

/-- The table of math/bits lies in its variable. -/
def Tab (w : World) : Prop := TabAt 0 Lib.deBruijn64tab w

theorem Tab.lt {w : World} (h : Tab w) : 0 < w.heap.size := World.block_lt_of_cell? _ _ (h 0 (by decide))
theorem Tab.below {w w' : World} {B : Nat} (h : Tab w) (hb : Below B w w') (hB : 0 < B) : Tab w' :=
  fun j hj => (hb.cell (p := ⟨0, j, none⟩) hB).trans (h j hj)

set_option maxHeartbeats 1000000 in
theorem tz_core (x k idx : Nat) (w : World) (hx0 : ((x : Int) == 0) = false)
    (key : IntKind.u64.wrap (bits BinOp.and IntKind.u64 (x : Int) (IntKind.u64.wrap (-(x : Int))) * 285870213051353865) / 288230376151711744 = (idx : Int))
    (hi : idx < 64) (hk : k < 64) (hcell : w.cell? ⟨0, idx, none⟩ = some (.int .u8 k)) :
    Calls Tryd.prog 89 #[.int .u64 x] w fun e w' => e = .returned (.int .i64 k) ∧ w = w' := by
  go_enter Tryd.func89, Tryd.ntmps89
  go_wp2_with (simp only [key])
  go_ret
  exact ⟨rfl, rfl⟩

/-- TrailingZeros64 of a number that is not 0. -/
theorem tz_any (l : List Bool) (x : Nat) (r : List Nat) (w : World) (hl : l.length ≤ 64) (h : on 0 l = x :: r) (hT : Tab w) :
    Calls Tryd.prog 89 #[.int .u64 (wd l)] w fun e w' => e = .returned (.int .i64 x) ∧ w = w' := by
  have hx0 : wd l ≠ 0 := by rw [Ne, wd_zero_iff l 0, h]; simp
  have hlt := wd_lt64 l hl
  have hc := ctz64_wd l x r hl h
  obtain ⟨hlow, hk⟩ := Lib.lowest_bit 64 (wd l) hx0 hlt
  obtain ⟨hi, htab⟩ := Lib.deBruijn64_at _ hk
  have hcell := hT _ hi
  rw [htab] at hcell
  rw [← hc]
  exact tz_core (wd l) _ _ w (by simp; omega) (tz64_key (wd l) _ hlt hx0 hlow) hi hk hcell

theorem ones_core (x y1 y2 y3 a b c r : Nat) (w : World)
    (k1 : IntKind.u64.wrap (bits BinOp.and IntKind.u64 ((x : Int) / 2) 6148914691236517205 + bits BinOp.and IntKind.u64 (x : Int) 6148914691236517205) = (y1 : Int))
    (k2 : IntKind.u64.wrap (bits BinOp.and IntKind.u64 ((y1 : Int) / 4) 3689348814741910323 + bits BinOp.and IntKind.u64 (y1 : Int) 3689348814741910323) = (y2 : Int))
    (k3 : bits BinOp.and IntKind.u64 (IntKind.u64.wrap ((y2 : Int) / 16 + (y2 : Int))) 1085102592571150095 = (y3 : Int))
    (k4 : IntKind.u64.wrap ((y3 : Int) + (y3 : Int) / 256) = (a : Int))
    (k5 : IntKind.u64.wrap ((a : Int) + (a : Int) / 65536) = (b : Int))
    (k6 : IntKind.u64.wrap ((b : Int) + (b : Int) / 4294967296) = (c : Int))
    (k7 : bits BinOp.and IntKind.i64 (wrap64 (c : Int)) 127 = (r : Int)) :
    Calls Tryd.prog 88 #[.int .u64 x] w fun e w' => e = .returned (.int .i64 r) ∧ w = w' := by
  go_enter Tryd.func88, Tryd.ntmps88
  go_wp2
  go_ret
  exact ⟨rfl, rfl⟩

theorem mask7_i64 (n : Int) : bits .and .i64 n 127 = n % 128 := by
  have hm : (BitVec.ofInt 64 127).toNat = 2 ^ 7 - 1 := by decide
  have key : (BitVec.ofInt 64 n &&& BitVec.ofInt 64 127).toNat = (n % ((2 ^ 64 : Nat) : Int)).toNat % 2 ^ 7 := by
    rw [BitVec.toNat_and, BitVec.toNat_ofInt, hm, Nat.and_two_pow_sub_one_eq_mod]
  show IntKind.i64.wrap ((BitVec.ofInt 64 n &&& BitVec.ofInt 64 127).toNat : Nat) = n % 128
  rw [key, IntKind.wrap_i64]
  omega

theorem and_u64_lit (a : Nat) (z : Int) (b : Nat) (hz : z = (b : Int)) (ha : a < 18446744073709551616) (hb : b < 18446744073709551616) : bits .and .u64 (a : Int) z = ((a &&& b : Nat) : Int) := by
  subst hz; exact bits_and_u64_nat a b ha hb

theorem wrap_u64_nat (n : Nat) (h : n < 18446744073709551616) : IntKind.u64.wrap (n : Int) = (n : Int) := by rw [IntKind.wrap_u64]; omega

theorem ones_key (x m d : Nat) (z e : Int) (hz : z = (m : Int)) (he : e = (d : Int)) (hx : x < 18446744073709551616) (hm : m < 9223372036854775808) :
    IntKind.u64.wrap (bits BinOp.and IntKind.u64 ((x : Int) / e) z + bits BinOp.and IntKind.u64 (x : Int) z) = (((x / d &&& m) + (x &&& m) : Nat) : Int) := by
  subst he
  have hd : x / d ≤ x := Nat.div_le_self _ _
  have h1 : x / d &&& m ≤ m := Nat.and_le_right
  have h2 : x &&& m ≤ m := Nat.and_le_right
  rw [show (x : Int) / (d : Int) = ((x / d : Nat) : Int) from by simp, and_u64_lit _ _ m hz (by omega) (by omega), and_u64_lit _ _ m hz hx (by omega), ← Int.natCast_add]
  exact wrap_u64_nat _ (by omega)

theorem wrap_add (x d : Nat) (e : Int) (he : e = (d : Int)) (h : x + x / d < 18446744073709551616) : IntKind.u64.wrap ((x : Int) + (x : Int) / e) = ((x + x / d : Nat) : Int) := by
  subst he
  rw [show (x : Int) / (d : Int) = ((x / d : Nat) : Int) from by simp, ← Int.natCast_add]
  exact wrap_u64_nat _ h

theorem wrap64_mod (c : Nat) : wrap64 (c : Int) % 128 = ((c % 128 : Nat) : Int) := by unfold wrap64; omega
theorem lt_q {y : Nat} (h : y < 7378697629483820647) : y / 16 + y < 18446744073709551616 := by omega

/-- OnesCount64 of a word of bits: how many are true. -/
theorem ones_any (l : List Bool) (w : World) (hl : l.length ≤ 64) :
    Calls Tryd.prog 88 #[.int .u64 (wd l)] w fun e w' => e = .returned (.int .i64 (on 0 l).length) ∧ w = w' := by
  have hx := wd_lt64 l hl
  rw [← popAux_wd l 64 hl]
  generalize wd l = x at *
  have m1 : t1 x < 12297829382473034411 := by
    have h1 : x / 2 &&& 6148914691236517205 ≤ 6148914691236517205 := Nat.and_le_right
    have h2 : x &&& 6148914691236517205 ≤ 6148914691236517205 := Nat.and_le_right
    unfold t1; omega
  have m2 : t2 (t1 x) < 7378697629483820647 := by
    have h1 : t1 x / 4 &&& 3689348814741910323 ≤ 3689348814741910323 := Nat.and_le_right
    have h2 : t1 x &&& 3689348814741910323 ≤ 3689348814741910323 := Nat.and_le_right
    unfold t2; omega
  obtain ⟨s1, s2, s3, s4⟩ := swar_sum x hx
  refine ones_core x (t1 x) (t2 (t1 x)) (swar3 x) _ _ _ _ w (ones_key x _ 2 _ _ rfl rfl hx (by decide)) (ones_key (t1 x) _ 4 _ _ rfl rfl (by omega) (by decide)) ?_ (wrap_add _ 256 _ rfl s3) (wrap_add _ 65536 _ rfl s2) (wrap_add _ 4294967296 _ rfl s1) ?_
  · rw [show ((t2 (t1 x) : Nat) : Int) / 16 = ((t2 (t1 x) / 16 : Nat) : Int) from by simp, ← Int.natCast_add, wrap_u64_nat _ (lt_q m2)]
    exact and_u64_lit _ _ 1085102592571150095 rfl (lt_q m2) (by decide)
  · rw [mask7_i64, wrap64_mod, s4]

end Go.Proofs.YthhcchdjeeigpaaDoor
