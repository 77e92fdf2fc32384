/- Mathematics of sums: one byte that is another one makes another sum. -/
import Derived.Test.YtimnhfppondnaaaHsum
namespace Go.Proofs.Ytimnhfppondnaaa
open Go.RowKit
set_option linter.unusedVariables false

theorem xor32 (x c : Int) : bits .xor .u32 x c = ((BitVec.ofInt 32 x ^^^ BitVec.ofInt 32 c).toNat : Int) := by
  show IntKind.u32.wrap ((BitVec.ofInt 32 x ^^^ BitVec.ofInt 32 c).toNat : Nat) = _
  have := (BitVec.ofInt 32 x ^^^ BitVec.ofInt 32 c).isLt
  rw [IntKind.wrap_u32]
  omega
theorem xor8 (x c : Int) : bits .xor .u8 x c = ((BitVec.ofInt 8 x ^^^ BitVec.ofInt 8 c).toNat : Int) := by
  show IntKind.u8.wrap ((BitVec.ofInt 8 x ^^^ BitVec.ofInt 8 c).toNat : Nat) = _
  have := (BitVec.ofInt 8 x ^^^ BitVec.ofInt 8 c).isLt
  rw [IntKind.wrap_u8]
  omega
theorem lin_aux (d q : Int) (h : d * 16777619 = 4294967296 * q) : d = 4294967296 * (q * 899433627 - d * 3513497) := by omega
theorem lt_aux (d r : Int) (h : d = 4294967296 * r) (h1 : -4294967296 < d) (h2 : d < 4294967296) : d = 0 := by omega
theorem mul_inj (a b : Int) (ha : 0 ≤ a ∧ a < 4294967296) (hb : 0 ≤ b ∧ b < 4294967296) (h : a * 16777619 % 4294967296 = b * 16777619 % 4294967296) : a = b := by
  have h1 := Int.emod_eq_emod_iff_emod_sub_eq_zero.1 h
  obtain ⟨q, hq⟩ := Int.dvd_of_emod_eq_zero h1
  rw [← Int.sub_mul] at hq
  have := lt_aux _ _ (lin_aux _ _ hq) (by clear hq h h1; omega) (by clear hq h h1; omega)
  clear hq h h1
  omega
theorem stp_inj (x y c d : Int) (h : stp x c = stp y d) : BitVec.ofInt 32 x ^^^ BitVec.ofInt 32 c = BitVec.ofInt 32 y ^^^ BitVec.ofInt 32 d := by
  unfold stp at h
  rw [IntKind.wrap_u32, IntKind.wrap_u32, xor32, xor32] at h
  have h1 := (BitVec.ofInt 32 x ^^^ BitVec.ofInt 32 c).isLt
  have h2 := (BitVec.ofInt 32 y ^^^ BitVec.ofInt 32 d).isLt
  exact BitVec.eq_of_toNat_eq (Int.ofNat_inj.1 (mul_inj _ _ ⟨Int.natCast_nonneg _, Int.ofNat_lt.2 h1⟩ ⟨Int.natCast_nonneg _, Int.ofNat_lt.2 h2⟩ h))
theorem ofInt_inj32 (x y : Int) (hx : 0 ≤ x ∧ x ≤ 4294967295) (hy : 0 ≤ y ∧ y ≤ 4294967295) (h : BitVec.ofInt 32 x = BitVec.ofInt 32 y) : x = y := by
  have := congrArg BitVec.toNat h
  rw [BitVec.toNat_ofInt, BitVec.toNat_ofInt] at this
  omega
theorem xor_left {n : Nat} {a b c : BitVec n} (h : a ^^^ b = a ^^^ c) : b = c := by
  have := congrArg (a ^^^ ·) h
  simpa [← BitVec.xor_assoc] using this
theorem stp_inj_x (x y c : Int) (hx : 0 ≤ x ∧ x ≤ 4294967295) (hy : 0 ≤ y ∧ y ≤ 4294967295) (h : stp x c = stp y c) : x = y := by
  have := stp_inj _ _ _ _ h
  rw [BitVec.xor_comm, BitVec.xor_comm (BitVec.ofInt 32 y)] at this
  exact ofInt_inj32 _ _ hx hy (xor_left this)
theorem stp_inj_c (x c d : Int) (hc : 0 ≤ c ∧ c ≤ 255) (hd : 0 ≤ d ∧ d ≤ 255) (h : stp x c = stp x d) : c = d :=
  ofInt_inj32 _ _ (by omega) (by omega) (xor_left (stp_inj _ _ _ _ h))
theorem sumF_inj (l : List UInt8) : ∀ (x y : Int), (0 ≤ x ∧ x ≤ 4294967295) → (0 ≤ y ∧ y ≤ 4294967295) → sumF x l = sumF y l → x = y := by
  induction l with
  | nil => intro x y _ _ h; exact h
  | cons c l ih => intro x y hx hy h; exact stp_inj_x _ _ _ hx hy (ih _ _ (stp_bd _ _) (stp_bd _ _) h)
theorem sum_turned (p q : List UInt8) (c d : UInt8) (h : sumI (p ++ c :: q) = sumI (p ++ d :: q)) : c = d := by
  unfold sumI at h
  have e : ∀ (z : UInt8), sumF 2166136261 (p ++ z :: q) = sumF (stp (sumF 2166136261 p) (z.toNat : Int)) q := by
    intro z; unfold sumF; rw [List.foldl_append]; rfl
  rw [e, e] at h
  have h1 := sumF_inj q _ _ (stp_bd _ _) (stp_bd _ _) h
  have h2 := stp_inj_c _ _ _ (by have := c.toNat_lt; omega) (by have := d.toNat_lt; omega) h1
  exact UInt8.toNat_inj.1 (by omega)
theorem sum_set (l : List UInt8) (i : Nat) (hi : i < l.length) (d : UInt8) (hd : d ≠ l[i]) : sumI l ≠ sumI (l.set i d) := by
  intro h
  rw [List.set_eq_take_append_cons_drop, if_pos hi] at h
  have e : l = l.take i ++ l[i] :: l.drop (i + 1) := by rw [List.getElem_cons_drop, List.take_append_drop]
  have h' : sumI (l.take i ++ l[i] :: l.drop (i + 1)) = sumI (l.take i ++ d :: l.drop (i + 1)) := by rw [← e]; exact h
  exact hd (sum_turned _ _ _ _ h').symm
theorem xor8_ne (a : UInt8) (b : Int) (hb : 0 < b ∧ b ≤ 255) : UInt8.ofNat (bits .xor .u8 (a.toNat : Int) b).toNat ≠ a := by
  intro h
  rw [xor8] at h
  have h1 := congrArg UInt8.toNat h
  have hl := (BitVec.ofInt 8 (a.toNat : Int) ^^^ BitVec.ofInt 8 b).isLt
  rw [UInt8.toNat_ofNat', Int.toNat_natCast, Nat.mod_eq_of_lt hl] at h1
  have h2 : BitVec.ofInt 8 (a.toNat : Int) ^^^ BitVec.ofInt 8 b = BitVec.ofInt 8 (a.toNat : Int) ^^^ 0#8 := by
    apply BitVec.eq_of_toNat_eq
    rw [h1]
    simp
  have h3 := congrArg BitVec.toNat (xor_left h2)
  rw [BitVec.toNat_ofInt] at h3
  simp at h3
  omega

end Go.Proofs.Ytimnhfppondnaaa
