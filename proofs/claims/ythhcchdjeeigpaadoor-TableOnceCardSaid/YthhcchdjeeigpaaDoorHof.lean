/- Contracts of package hash: withNumber, Of, Stripe; of the statements' own Of, Stripe. -/
import Derived.Test.YthhcchdjeeigpaaDoorHsum
import Derived.Laws.BytesArg
namespace Go.Proofs.YthhcchdjeeigpaaDoor
open Go.RowKit
set_option linter.unusedVariables false

theorem below_drewN {B : Nat} {w w' : World} (h : Below B w w') (n : Nat) : Below B w (w'.drewN n) := ⟨h.os, h.tape, h.output, h.size, h.block⟩

/-- A sum with the four bytes of a number more. -/
def numF (x n : Int) : Int := stp (stp (stp (stp x (n % 256)) (n / 256 % 256)) (n / 65536 % 256)) (n / 16777216 % 256)
theorem numF_bd (x n : Int) : 0 ≤ numF x n ∧ numF x n ≤ 4294967295 := stp_bd _ _
/-- The number of a key. -/
def keyI (l : List UInt8) (a b : Int) : Int := numF (numF (sumI l) a) b
theorem keyI_bd (l : List UInt8) (a b : Int) : 0 ≤ keyI l a b ∧ keyI l a b ≤ 4294967295 := numF_bd _ _
theorem numF_hid (x n : Int) : stp (stp (stp (stp x (n % 256)) (n / 256 % 256)) (n / 65536 % 256)) (n / 16777216 % 256) = numF x n := rfl

set_option maxHeartbeats 400000 in
theorem withnumber_any (x n : Int) (w : World) :
    Calls Tryd.prog 96 #[.int .u32 x, .int .i64 n] w fun e w' => e = .returned (.int .u32 (numF x n)) ∧ w = w' := by
  have b1 : 0 ≤ n % 256 ∧ n % 256 ≤ 255 := by omega
  have b2 : 0 ≤ n / 256 % 256 ∧ n / 256 % 256 ≤ 255 := by omega
  have b3 : 0 ≤ n / 65536 % 256 ∧ n / 65536 % 256 ≤ 255 := by omega
  have b4 : 0 ≤ n / 16777216 % 256 ∧ n / 16777216 % 256 ≤ 255 := by omega
  go_enter Tryd.func96, Tryd.ntmps96
  go_wp2
  refine wp_loop_rounds 5 ?_
  iterate 5
    rw [rounds_succ]
    go_wp2_with (go_at_call 98; refine (withbyte_any _ _ _ (by omega) (by omega)).mono ?_; rintro e w' ⟨rfl, rfl⟩)
  go_ret
  exact ⟨rfl, rfl⟩

theorem sum_q (s : ByteArray) (w : World) (hs : s.size ≤ maxLen) :
    Calls Tryd.prog 97 #[.string s] w fun e w' => e = .returned (.int .u32 (sumI s.data.toList)) ∧ w' = w := (sum_any s w hs).mono fun _ _ ⟨h1, h2⟩ => ⟨h1, h2.symm⟩
theorem withnumber_q (x n : Int) (w : World) :
    Calls Tryd.prog 96 #[.int .u32 x, .int .i64 n] w fun e w' => e = .returned (.int .u32 (numF x n)) ∧ w' = w := (withnumber_any x n w).mono fun _ _ ⟨h1, h2⟩ => ⟨h1, h2.symm⟩

set_option maxHeartbeats 400000 in
theorem of_key (s : ByteArray) (a b : Int) (w : World) (hs : s.size ≤ maxLen) :
    Calls Tryd.prog 95 #[.agg #[.string s, .int .i64 a, .int .i64 b]] w fun e w' => e = .returned (.int .u32 (keyI s.data.toList a b)) ∧ Below w.heap.size w w' := by
  have HM : Hid (s.size ≤ maxLen) := Lib.hid hs
  clear hs
  go_enter Tryd.func95, Tryd.ntmps95
  go_wp2
  go_quiet (first | (go_at_call 97; (with_reducible refine Calls.quiet_of_same (sum_q _ _ HM.out))) | (go_at_call 96; (with_reducible refine Calls.quiet_of_same (withnumber_q _ _ _))))
  go_wp2
  go_ret
  exact ⟨rfl, below_drewN ((Below.refl _ _).alloc (Nat.le_refl _) _) _⟩

theorem byte_str (W : World) (b : Nat) (n : Int) (h : W.cell? ⟨b, 0, none⟩ = some (.int .u8 n)) :
    (convert 35 9 (.slice (some ⟨b, 0, none⟩) 1 1)).run Tryd.prog W = .ok (.string (strOfNums [n])) W :=
  run_convert_bytes_arg W 35 5 Tryd.underlying35 Tryd.underlying5 b 0 1 1 [n] rfl (fun i hi => by have hi0 : i = 0 := (by omega); rw [hi0]; exact h) 9 Tryd.underlying9
theorem size_one (n : Int) : (strOfNums [n]).size = 1 := rfl
theorem size_app (s t : ByteArray) : (s ++ t).size = s.size + t.size := ByteArray.size_append
theorem sumI_app1 (s : ByteArray) (n : Int) (h : 0 ≤ n ∧ n ≤ 255) : sumI (s ++ strOfNums [n]).data.toList = stp (sumI s.data.toList) n := by
  have : (s ++ strOfNums [n]).data.toList = s.data.toList ++ [UInt8.ofNat n.toNat] := by simp [strOfNums]
  rw [this, sumI_snoc]
  congr 1
  rw [UInt8.toNat_ofNat']
  omega
/-- A name and the bytes of two numbers behind it. -/
def keyS (s : ByteArray) (a b : Int) : ByteArray :=
  s ++ strOfNums [a % 256] ++ strOfNums [a / 256 % 256] ++ strOfNums [a / 65536 % 256] ++ strOfNums [a / 16777216 % 256] ++ strOfNums [b % 256] ++ strOfNums [b / 256 % 256] ++ strOfNums [b / 65536 % 256] ++ strOfNums [b / 16777216 % 256]
theorem sumI_key (s : ByteArray) (a b : Int) : sumI (keyS s a b).data.toList = keyI s.data.toList a b := by
  unfold keyS keyI numF
  rw [sumI_app1 _ _ (by omega), sumI_app1 _ _ (by omega), sumI_app1 _ _ (by omega), sumI_app1 _ _ (by omega), sumI_app1 _ _ (by omega), sumI_app1 _ _ (by omega), sumI_app1 _ _ (by omega), sumI_app1 _ _ (by omega)]
theorem keyS_size (s : ByteArray) (a b : Int) : (keyS s a b).size = s.size + 8 := by
  unfold keyS
  simp only [size_app, size_one]
theorem rsum_key (s : ByteArray) (a b : Int) (w : World) (hs : s.size ≤ 1000) :
    Calls Tryd.prog 86 #[.string (keyS s a b)] w fun e w' => e = .returned (.int .u32 (keyI s.data.toList a b)) ∧ w = w' := by
  have := rsum_any (keyS s a b) w (by rw [keyS_size]; unfold maxLen; omega)
  rwa [sumI_key] at this

set_option maxHeartbeats 400000 in
theorem rof_key (s : ByteArray) (a b : Int) (w : World) (hs : s.size ≤ 1000) :
    Calls Tryd.prog 71 #[.agg #[.string s, .int .i64 a, .int .i64 b]] w fun e w' => e = .returned (.int .u32 (keyI s.data.toList a b)) ∧ Below w.heap.size w w' := by
  have hB := byte_str
  have hS := size_one
  go_enter Tryd.func71, Tryd.ntmps71
  go_wp2
  refine wp_loop_rounds 3 ?_
  iterate 2
    rw [rounds_succ]
    go_wp2
    refine wp_loop_rounds 5 ?_
    iterate 5
      rw [rounds_succ]
      go_wp2
  rw [rounds_succ]
  go_wp2_with (go_at_call 86; refine (rsum_key _ _ _ _ hs).mono ?_; rintro e w' ⟨rfl, rfl⟩)
  go_ret
  refine ⟨rfl, ?_⟩
  go_grown

end Go.Proofs.YthhcchdjeeigpaaDoor
