/- PROVED: the law DataWrong (what may not be declared is told where it is: a name twice, or one that there was always, a variable twice, or none, a type that there is not, or with too few kids) returns true at every input, and leaves its arguments as they were. No condition. -/
import Derived.Test.YtccilgemfkdmkaaDA
import Derived.Test.YtccilgemfkdmkaaYparm
import Derived.Test.YtccilgemfkdmkaaYsp
import Derived.Test.YtccilgemfkdmkaaZA
import Derived.Test.YtccilgemfkdmkaaRows
import Derived.ProofKit
import Derived.OpenShut
import Derived.ShutString
import Derived.ChangeOld
import Derived.Lib.SmallJoins
namespace Go.Proofs.Ytccilgemfkdmkaa
open Go.RowKit Go.Maps
set_option linter.unusedVariables false
set_option linter.unusedSimpArgs false

set_option maxRecDepth 100000 in
set_option maxHeartbeats 8000000 in
theorem data_wrong_law (which : Nat) (w : World) (hw : which < 256) :
    Calls Try.prog 8 #[.int .u8 (which : Int)] w fun e w' => e = .returned (.bool true) ∧ Below w.heap.size w w' := by
  obtain ⟨k, hk⟩ : ∃ k, which % 11 = k := ⟨_, rfl⟩
  have hk11 : k < 11 := by omega
  have ek1 : (which : Int) % 11 = (k : Int) := by omega
  have ek2 : (which : Int).tmod 11 = (k : Int) := by rw [Int.tmod_eq_emod_of_nonneg (by omega)]; exact ek1
  clear hk
  obtain ⟨XT, hXT⟩ : ∃ XT, strB (wrT.getD k []) = XT := ⟨_, rfl⟩
  obtain ⟨F, hF⟩ : ∃ F, wrF.getD k 0 = F := ⟨_, rfl⟩
  obtain ⟨O, hO⟩ : ∃ O, parseL (wrT.getD k []) = O := ⟨_, rfl⟩
  obtain ⟨Q, hQ⟩ : ∃ Q, parseL wrY = Q := ⟨_, rfl⟩
  have c1 := ckOk_of (wr_all k hk11)
  have c2 := ckOk_of wr_y
  rw [hO, hF] at c1
  rw [hQ] at c2
  obtain ⟨o1, o2, o3, o4, o5⟩ := c1
  obtain ⟨q1, q2, q3, q4, q5⟩ := c2
  have HY1 : Hid (∀ w, Calls Try.prog 17 #[.string XT] w fun e w' => ∃ a b, e = .returned (.agg #[a, b, .int .i64 0, .int .i64 O.at_]) ∧ IsV (New w) w' (pgC O.p) (.agg #[a, b]) ∧ Below w.heap.size w w') := fun w => by
    have := y_Parse (wrT.getD k []) w (by have := wr_len k hk11; omega) hO
    rw [hXT, o1] at this; exact this
  have HY2 : Hid (∀ w, Calls Try.prog 17 #[.string ⟨#[100, 97, 116, 97, 32, 68, 32, 97, 32, 61, 32, 65, 32, 97, 32, 40, 69, 32, 73, 110, 116, 41, 32, 124, 32, 66, 32, 40, 68, 32, 97, 32, 45, 62, 32, 66, 111, 111, 108, 41, 59, 32, 100, 97, 116, 97, 32, 69, 32, 120, 32, 61, 32, 70, 32, 40, 68, 32, 40, 69, 32, 120, 41, 44, 32, 120, 41, 59]⟩] w fun e w' => ∃ a b, e = .returned (.agg #[a, b, .int .i64 0, .int .i64 Q.at_]) ∧ IsV (New w) w' (pgC Q.p) (.agg #[a, b]) ∧ Below w.heap.size w w') := fun w => by
    have := y_Parse wrY w (by decide) hQ
    rw [q1] at this; exact this
  have HC1 : Hid (∀ (S : Nat → Prop) (a : Option Addr) (c : Nat) (w : World), InC S w (.s O.p.datas.length 4 (O.p.datas.flatMap dtC)) (.slice a O.p.datas.length c) → Calls Try.prog 19 #[.slice a O.p.datas.length c] w fun e w' => e = .returned (.tuple #[.int .i64 6, .int .i64 (F : Int)]) ∧ Below w.heap.size w w') := fun S a c w h => k_Check w O.p.datas a _ c rfl o5 o3 o4 h o2
  have HC2 : Hid (∀ (S : Nat → Prop) (a : Option Addr) (c : Nat) (w : World), InC S w (.s Q.p.datas.length 4 (Q.p.datas.flatMap dtC)) (.slice a Q.p.datas.length c) → Calls Try.prog 19 #[.slice a Q.p.datas.length c] w fun e w' => e = .returned (.tuple #[.int .i64 0, .int .i64 0]) ∧ Below w.heap.size w w') := fun S a c w h => k_Check w Q.p.datas a _ c rfl q5 q3 q4 h q2
  have hbs := Box.new w 9 [.string ⟨#[100, 97, 116, 97, 32, 73, 110, 116, 32, 61, 32, 65, 59]⟩, .string ⟨#[100, 97, 116, 97, 32, 68, 32, 61, 32, 65, 59, 32, 100, 97, 116, 97, 32, 68, 32, 61, 32, 66, 59]⟩, .string ⟨#[100, 97, 116, 97, 32, 68, 32, 97, 32, 97, 32, 61, 32, 65, 59]⟩, .string ⟨#[100, 97, 116, 97, 32, 68, 32, 61, 32, 65, 59, 32, 100, 97, 116, 97, 32, 69, 32, 61, 32, 65, 59]⟩, .string ⟨#[100, 97, 116, 97, 32, 68, 32, 61, 32, 65, 32, 124, 32, 65, 59]⟩, .string ⟨#[100, 97, 116, 97, 32, 68, 32, 97, 32, 61, 32, 65, 32, 98, 59]⟩, .string ⟨#[100, 97, 116, 97, 32, 68, 32, 61, 32, 65, 32, 88, 59]⟩, .string ⟨#[100, 97, 116, 97, 32, 68, 32, 97, 32, 61, 32, 65, 32, 68, 59]⟩, .string ⟨#[100, 97, 116, 97, 32, 68, 32, 61, 32, 65, 32, 40, 73, 110, 116, 32, 73, 110, 116, 41, 59]⟩, .string ⟨#[100, 97, 116, 97, 32, 68, 32, 97, 32, 61, 32, 65, 32, 40, 97, 32, 45, 62, 32, 40, 68, 44, 32, 73, 110, 116, 41, 41, 59]⟩, .string ⟨#[100, 97, 116, 97, 32, 66, 111, 111, 108, 32, 61, 32, 66, 59]⟩]
  have hbf := Box.new (w.alloc (.cells #[.string ⟨#[100, 97, 116, 97, 32, 73, 110, 116, 32, 61, 32, 65, 59]⟩, .string ⟨#[100, 97, 116, 97, 32, 68, 32, 61, 32, 65, 59, 32, 100, 97, 116, 97, 32, 68, 32, 61, 32, 66, 59]⟩, .string ⟨#[100, 97, 116, 97, 32, 68, 32, 97, 32, 97, 32, 61, 32, 65, 59]⟩, .string ⟨#[100, 97, 116, 97, 32, 68, 32, 61, 32, 65, 59, 32, 100, 97, 116, 97, 32, 69, 32, 61, 32, 65, 59]⟩, .string ⟨#[100, 97, 116, 97, 32, 68, 32, 61, 32, 65, 32, 124, 32, 65, 59]⟩, .string ⟨#[100, 97, 116, 97, 32, 68, 32, 97, 32, 61, 32, 65, 32, 98, 59]⟩, .string ⟨#[100, 97, 116, 97, 32, 68, 32, 61, 32, 65, 32, 88, 59]⟩, .string ⟨#[100, 97, 116, 97, 32, 68, 32, 97, 32, 61, 32, 65, 32, 68, 59]⟩, .string ⟨#[100, 97, 116, 97, 32, 68, 32, 61, 32, 65, 32, 40, 73, 110, 116, 32, 73, 110, 116, 41, 59]⟩, .string ⟨#[100, 97, 116, 97, 32, 68, 32, 97, 32, 61, 32, 65, 32, 40, 97, 32, 45, 62, 32, 40, 68, 44, 32, 73, 110, 116, 41, 41, 59]⟩, .string ⟨#[100, 97, 116, 97, 32, 66, 111, 111, 108, 32, 61, 32, 66, 59]⟩] 9)) 3 [.int .i64 5, .int .i64 17, .int .i64 5, .int .i64 21, .int .i64 13, .int .i64 11, .int .i64 9, .int .i64 11, .int .i64 9, .int .i64 11, .int .i64 5]
  rw [World.size_alloc] at hbf
  have cT := (hbs.alloc (.cells #[.int .i64 5, .int .i64 17, .int .i64 5, .int .i64 21, .int .i64 13, .int .i64 11, .int .i64 9, .int .i64 11, .int .i64 9, .int .i64 11, .int .i64 5] 3)).cell k
  have cF := hbf.cell k
  have gT : ([.string ⟨#[100, 97, 116, 97, 32, 73, 110, 116, 32, 61, 32, 65, 59]⟩, .string ⟨#[100, 97, 116, 97, 32, 68, 32, 61, 32, 65, 59, 32, 100, 97, 116, 97, 32, 68, 32, 61, 32, 66, 59]⟩, .string ⟨#[100, 97, 116, 97, 32, 68, 32, 97, 32, 97, 32, 61, 32, 65, 59]⟩, .string ⟨#[100, 97, 116, 97, 32, 68, 32, 61, 32, 65, 59, 32, 100, 97, 116, 97, 32, 69, 32, 61, 32, 65, 59]⟩, .string ⟨#[100, 97, 116, 97, 32, 68, 32, 61, 32, 65, 32, 124, 32, 65, 59]⟩, .string ⟨#[100, 97, 116, 97, 32, 68, 32, 97, 32, 61, 32, 65, 32, 98, 59]⟩, .string ⟨#[100, 97, 116, 97, 32, 68, 32, 61, 32, 65, 32, 88, 59]⟩, .string ⟨#[100, 97, 116, 97, 32, 68, 32, 97, 32, 61, 32, 65, 32, 68, 59]⟩, .string ⟨#[100, 97, 116, 97, 32, 68, 32, 61, 32, 65, 32, 40, 73, 110, 116, 32, 73, 110, 116, 41, 59]⟩, .string ⟨#[100, 97, 116, 97, 32, 68, 32, 97, 32, 61, 32, 65, 32, 40, 97, 32, 45, 62, 32, 40, 68, 44, 32, 73, 110, 116, 41, 41, 59]⟩, .string ⟨#[100, 97, 116, 97, 32, 66, 111, 111, 108, 32, 61, 32, 66, 59]⟩] : List Value)[k]? = some (.string XT) := by
    have : ∀ k < 11, ([.string ⟨#[100, 97, 116, 97, 32, 73, 110, 116, 32, 61, 32, 65, 59]⟩, .string ⟨#[100, 97, 116, 97, 32, 68, 32, 61, 32, 65, 59, 32, 100, 97, 116, 97, 32, 68, 32, 61, 32, 66, 59]⟩, .string ⟨#[100, 97, 116, 97, 32, 68, 32, 97, 32, 97, 32, 61, 32, 65, 59]⟩, .string ⟨#[100, 97, 116, 97, 32, 68, 32, 61, 32, 65, 59, 32, 100, 97, 116, 97, 32, 69, 32, 61, 32, 65, 59]⟩, .string ⟨#[100, 97, 116, 97, 32, 68, 32, 61, 32, 65, 32, 124, 32, 65, 59]⟩, .string ⟨#[100, 97, 116, 97, 32, 68, 32, 97, 32, 61, 32, 65, 32, 98, 59]⟩, .string ⟨#[100, 97, 116, 97, 32, 68, 32, 61, 32, 65, 32, 88, 59]⟩, .string ⟨#[100, 97, 116, 97, 32, 68, 32, 97, 32, 61, 32, 65, 32, 68, 59]⟩, .string ⟨#[100, 97, 116, 97, 32, 68, 32, 61, 32, 65, 32, 40, 73, 110, 116, 32, 73, 110, 116, 41, 59]⟩, .string ⟨#[100, 97, 116, 97, 32, 68, 32, 97, 32, 61, 32, 65, 32, 40, 97, 32, 45, 62, 32, 40, 68, 44, 32, 73, 110, 116, 41, 41, 59]⟩, .string ⟨#[100, 97, 116, 97, 32, 66, 111, 111, 108, 32, 61, 32, 66, 59]⟩] : List Value)[k]? = some (.string (strB (wrT.getD k []))) := by
      intro k hk
      have : k = 0 ∨ k = 1 ∨ k = 2 ∨ k = 3 ∨ k = 4 ∨ k = 5 ∨ k = 6 ∨ k = 7 ∨ k = 8 ∨ k = 9 ∨ k = 10 := by omega
      rcases this with rfl | rfl | rfl | rfl | rfl | rfl | rfl | rfl | rfl | rfl | rfl <;> rfl
    rw [← hXT]; exact this k hk11
  have gF : ([.int .i64 5, .int .i64 17, .int .i64 5, .int .i64 21, .int .i64 13, .int .i64 11, .int .i64 9, .int .i64 11, .int .i64 9, .int .i64 11, .int .i64 5] : List Value)[k]? = some (.int .i64 (F : Int)) := by
    have : ∀ k < 11, ([.int .i64 5, .int .i64 17, .int .i64 5, .int .i64 21, .int .i64 13, .int .i64 11, .int .i64 9, .int .i64 11, .int .i64 9, .int .i64 11, .int .i64 5] : List Value)[k]? = some (.int .i64 ((wrF.getD k 0 : Nat) : Int)) := by
      intro k hk
      have : k = 0 ∨ k = 1 ∨ k = 2 ∨ k = 3 ∨ k = 4 ∨ k = 5 ∨ k = 6 ∨ k = 7 ∨ k = 8 ∨ k = 9 ∨ k = 10 := by omega
      rcases this with rfl | rfl | rfl | rfl | rfl | rfl | rfl | rfl | rfl | rfl | rfl <;> rfl
    rw [← hF]; exact this k hk11
  rw [gT] at cT
  rw [gF] at cF
  have HB0 : Hid (Below w.heap.size w ((w.alloc (.cells #[.string ⟨#[100, 97, 116, 97, 32, 73, 110, 116, 32, 61, 32, 65, 59]⟩, .string ⟨#[100, 97, 116, 97, 32, 68, 32, 61, 32, 65, 59, 32, 100, 97, 116, 97, 32, 68, 32, 61, 32, 66, 59]⟩, .string ⟨#[100, 97, 116, 97, 32, 68, 32, 97, 32, 97, 32, 61, 32, 65, 59]⟩, .string ⟨#[100, 97, 116, 97, 32, 68, 32, 61, 32, 65, 59, 32, 100, 97, 116, 97, 32, 69, 32, 61, 32, 65, 59]⟩, .string ⟨#[100, 97, 116, 97, 32, 68, 32, 61, 32, 65, 32, 124, 32, 65, 59]⟩, .string ⟨#[100, 97, 116, 97, 32, 68, 32, 97, 32, 61, 32, 65, 32, 98, 59]⟩, .string ⟨#[100, 97, 116, 97, 32, 68, 32, 61, 32, 65, 32, 88, 59]⟩, .string ⟨#[100, 97, 116, 97, 32, 68, 32, 97, 32, 61, 32, 65, 32, 68, 59]⟩, .string ⟨#[100, 97, 116, 97, 32, 68, 32, 61, 32, 65, 32, 40, 73, 110, 116, 32, 73, 110, 116, 41, 59]⟩, .string ⟨#[100, 97, 116, 97, 32, 68, 32, 97, 32, 61, 32, 65, 32, 40, 97, 32, 45, 62, 32, 40, 68, 44, 32, 73, 110, 116, 41, 41, 59]⟩, .string ⟨#[100, 97, 116, 97, 32, 66, 111, 111, 108, 32, 61, 32, 66, 59]⟩] 9)).alloc (.cells #[.int .i64 5, .int .i64 17, .int .i64 5, .int .i64 21, .int .i64 13, .int .i64 11, .int .i64 9, .int .i64 11, .int .i64 9, .int .i64 11, .int .i64 5] 3))) := ((Below.refl _ w).alloc (Nat.le_refl _) _).alloc (by simp) _
  have hsz : ((w.alloc (.cells #[.string ⟨#[100, 97, 116, 97, 32, 73, 110, 116, 32, 61, 32, 65, 59]⟩, .string ⟨#[100, 97, 116, 97, 32, 68, 32, 61, 32, 65, 59, 32, 100, 97, 116, 97, 32, 68, 32, 61, 32, 66, 59]⟩, .string ⟨#[100, 97, 116, 97, 32, 68, 32, 97, 32, 97, 32, 61, 32, 65, 59]⟩, .string ⟨#[100, 97, 116, 97, 32, 68, 32, 61, 32, 65, 59, 32, 100, 97, 116, 97, 32, 69, 32, 61, 32, 65, 59]⟩, .string ⟨#[100, 97, 116, 97, 32, 68, 32, 61, 32, 65, 32, 124, 32, 65, 59]⟩, .string ⟨#[100, 97, 116, 97, 32, 68, 32, 97, 32, 61, 32, 65, 32, 98, 59]⟩, .string ⟨#[100, 97, 116, 97, 32, 68, 32, 61, 32, 65, 32, 88, 59]⟩, .string ⟨#[100, 97, 116, 97, 32, 68, 32, 97, 32, 61, 32, 65, 32, 68, 59]⟩, .string ⟨#[100, 97, 116, 97, 32, 68, 32, 61, 32, 65, 32, 40, 73, 110, 116, 32, 73, 110, 116, 41, 59]⟩, .string ⟨#[100, 97, 116, 97, 32, 68, 32, 97, 32, 61, 32, 65, 32, 40, 97, 32, 45, 62, 32, 40, 68, 44, 32, 73, 110, 116, 41, 41, 59]⟩, .string ⟨#[100, 97, 116, 97, 32, 66, 111, 111, 108, 32, 61, 32, 66, 59]⟩] 9)).alloc (.cells #[.int .i64 5, .int .i64 17, .int .i64 5, .int .i64 21, .int .i64 13, .int .i64 11, .int .i64 9, .int .i64 11, .int .i64 9, .int .i64 11, .int .i64 5] 3)).heap.size = w.heap.size + 1 + 1 := by simp
  clear hbs hbf gT gF o1 o2 o3 o4 o5 q1 q2 q3 q4 q5 hO hQ hXT hF
  go_enter Try.func8, Try.ntmps8
  go_upto_region 3 with (fail)
  obtain ⟨W2, hW2⟩ : ∃ W2, (w.alloc (.cells #[.string ⟨#[100, 97, 116, 97, 32, 73, 110, 116, 32, 61, 32, 65, 59]⟩, .string ⟨#[100, 97, 116, 97, 32, 68, 32, 61, 32, 65, 59, 32, 100, 97, 116, 97, 32, 68, 32, 61, 32, 66, 59]⟩, .string ⟨#[100, 97, 116, 97, 32, 68, 32, 97, 32, 97, 32, 61, 32, 65, 59]⟩, .string ⟨#[100, 97, 116, 97, 32, 68, 32, 61, 32, 65, 59, 32, 100, 97, 116, 97, 32, 69, 32, 61, 32, 65, 59]⟩, .string ⟨#[100, 97, 116, 97, 32, 68, 32, 61, 32, 65, 32, 124, 32, 65, 59]⟩, .string ⟨#[100, 97, 116, 97, 32, 68, 32, 97, 32, 61, 32, 65, 32, 98, 59]⟩, .string ⟨#[100, 97, 116, 97, 32, 68, 32, 61, 32, 65, 32, 88, 59]⟩, .string ⟨#[100, 97, 116, 97, 32, 68, 32, 97, 32, 61, 32, 65, 32, 68, 59]⟩, .string ⟨#[100, 97, 116, 97, 32, 68, 32, 61, 32, 65, 32, 40, 73, 110, 116, 32, 73, 110, 116, 41, 59]⟩, .string ⟨#[100, 97, 116, 97, 32, 68, 32, 97, 32, 61, 32, 65, 32, 40, 97, 32, 45, 62, 32, 40, 68, 44, 32, 73, 110, 116, 41, 41, 59]⟩, .string ⟨#[100, 97, 116, 97, 32, 66, 111, 111, 108, 32, 61, 32, 66, 59]⟩] 9)).alloc (.cells #[.int .i64 5, .int .i64 17, .int .i64 5, .int .i64 21, .int .i64 13, .int .i64 11, .int .i64 9, .int .i64 11, .int .i64 9, .int .i64 11, .int .i64 5] 3) = W2 := ⟨_, rfl⟩
  rw [hW2] at HB0 hsz ⊢
  rw [show ((w.alloc (.cells ([.string ⟨#[100, 97, 116, 97, 32, 73, 110, 116, 32, 61, 32, 65, 59]⟩, .string ⟨#[100, 97, 116, 97, 32, 68, 32, 61, 32, 65, 59, 32, 100, 97, 116, 97, 32, 68, 32, 61, 32, 66, 59]⟩, .string ⟨#[100, 97, 116, 97, 32, 68, 32, 97, 32, 97, 32, 61, 32, 65, 59]⟩, .string ⟨#[100, 97, 116, 97, 32, 68, 32, 61, 32, 65, 59, 32, 100, 97, 116, 97, 32, 69, 32, 61, 32, 65, 59]⟩, .string ⟨#[100, 97, 116, 97, 32, 68, 32, 61, 32, 65, 32, 124, 32, 65, 59]⟩, .string ⟨#[100, 97, 116, 97, 32, 68, 32, 97, 32, 61, 32, 65, 32, 98, 59]⟩, .string ⟨#[100, 97, 116, 97, 32, 68, 32, 61, 32, 65, 32, 88, 59]⟩, .string ⟨#[100, 97, 116, 97, 32, 68, 32, 97, 32, 61, 32, 65, 32, 68, 59]⟩, .string ⟨#[100, 97, 116, 97, 32, 68, 32, 61, 32, 65, 32, 40, 73, 110, 116, 32, 73, 110, 116, 41, 59]⟩, .string ⟨#[100, 97, 116, 97, 32, 68, 32, 97, 32, 61, 32, 65, 32, 40, 97, 32, 45, 62, 32, 40, 68, 44, 32, 73, 110, 116, 41, 41, 59]⟩, .string ⟨#[100, 97, 116, 97, 32, 66, 111, 111, 108, 32, 61, 32, 66, 59]⟩] : List Value).toArray 9)).alloc (.cells #[.int .i64 5, .int .i64 17, .int .i64 5, .int .i64 21, .int .i64 13, .int .i64 11, .int .i64 9, .int .i64 11, .int .i64 9, .int .i64 11, .int .i64 5] 3)) = W2 from hW2] at cT
  rw [show ((w.alloc (.cells #[.string ⟨#[100, 97, 116, 97, 32, 73, 110, 116, 32, 61, 32, 65, 59]⟩, .string ⟨#[100, 97, 116, 97, 32, 68, 32, 61, 32, 65, 59, 32, 100, 97, 116, 97, 32, 68, 32, 61, 32, 66, 59]⟩, .string ⟨#[100, 97, 116, 97, 32, 68, 32, 97, 32, 97, 32, 61, 32, 65, 59]⟩, .string ⟨#[100, 97, 116, 97, 32, 68, 32, 61, 32, 65, 59, 32, 100, 97, 116, 97, 32, 69, 32, 61, 32, 65, 59]⟩, .string ⟨#[100, 97, 116, 97, 32, 68, 32, 61, 32, 65, 32, 124, 32, 65, 59]⟩, .string ⟨#[100, 97, 116, 97, 32, 68, 32, 97, 32, 61, 32, 65, 32, 98, 59]⟩, .string ⟨#[100, 97, 116, 97, 32, 68, 32, 61, 32, 65, 32, 88, 59]⟩, .string ⟨#[100, 97, 116, 97, 32, 68, 32, 97, 32, 61, 32, 65, 32, 68, 59]⟩, .string ⟨#[100, 97, 116, 97, 32, 68, 32, 61, 32, 65, 32, 40, 73, 110, 116, 32, 73, 110, 116, 41, 59]⟩, .string ⟨#[100, 97, 116, 97, 32, 68, 32, 97, 32, 61, 32, 65, 32, 40, 97, 32, 45, 62, 32, 40, 68, 44, 32, 73, 110, 116, 41, 41, 59]⟩, .string ⟨#[100, 97, 116, 97, 32, 66, 111, 111, 108, 32, 61, 32, 66, 59]⟩] 9)).alloc (.cells ([.int .i64 5, .int .i64 17, .int .i64 5, .int .i64 21, .int .i64 13, .int .i64 11, .int .i64 9, .int .i64 11, .int .i64 9, .int .i64 11, .int .i64 5] : List Value).toArray 3)) = W2 from hW2] at cF
  have CF := Lib.hid cF
  clear hW2
  go_wp2_with (first
    | (go_at_call 17; (with_reducible refine (HY1.out _).mono ?_); rintro e w3 ⟨a, b, rfl, hv3, hb3⟩; obtain ⟨a1, a2, c1, c2, hab, hd1, hd2⟩ := hv3.pgp; simp only [Value.agg.injEq, Array.mk.injEq, List.cons.injEq, and_true] at hab; obtain ⟨rfl, rfl⟩ := hab; have HD1 := Lib.hid hd1; have HB3 := Lib.hid hb3; clear hv3 hd1 hd2 hb3 HY1)
    | (go_at_call 19; (with_reducible refine (HC1.out _ _ _ _ (HD1.out.alloc _)).mono ?_); rintro e w4 ⟨rfl, hb4⟩; have HB4 := Lib.hid ((HB3.out.alloc HB3.out.size (.cells #[.slice a1 O.p.datas.length c1, .slice a2 O.p.binds.length c2, .int .i64 0, .int .i64 O.at_] 49)).trans (hb4.mono (by have := HB3.out.size; simp; omega))); clear hb4 HC1 HD1)
    | (go_at_call 17; (refine (HY2.out _).mono ?_); rintro e w5 ⟨a, b, rfl, hv5, hb5⟩; obtain ⟨a3, a4, c3, c4, hab, hd1, hd2⟩ := hv5.pgp; simp only [Value.agg.injEq, Array.mk.injEq, List.cons.injEq, and_true] at hab; obtain ⟨rfl, rfl⟩ := hab; have HD2 := Lib.hid hd1; have HB5 := Lib.hid (HB4.out.trans (hb5.mono HB4.out.size)); clear hv5 hd1 hd2 hb5 HY2)
    | (go_at_call 19; (with_reducible refine (HC2.out _ _ _ _ (HD2.out.alloc _)).mono ?_); rintro e w6 ⟨rfl, hb6⟩; have hx6 := (Box.new w5 49 [.slice a3 Q.p.datas.length c3, .slice a4 Q.p.binds.length c4, .int .i64 0, .int .i64 Q.at_]).below hb6; obtain ⟨_, _, _, _⟩ := four_cells hx6; have hl6 := hx6.lt; have HB6 := Lib.hid ((HB5.out.alloc HB5.out.size (.cells #[.slice a3 Q.p.datas.length c3, .slice a4 Q.p.binds.length c4, .int .i64 0, .int .i64 Q.at_] 49)).trans (hb6.mono (by have := HB5.out.size; simp; omega))); have cF6 := (HB6.out.cell (p := ⟨w.heap.size + 1, k, none⟩) (show w.heap.size + 1 < W2.heap.size by omega)).trans CF.out; have hw6 := HB6.out.size; have hw61 : w.heap.size + 1 < w6.heap.size := (by omega); have hFF : ((F : Int) == (F : Int)) = true := (by simp); clear hb6 HC2 HD2 hx6)
    | (go_at_call 12; refine (num_any _ _).mono ?_; rintro e w' ⟨rfl, hw⟩; have hw := hw.symm; subst hw)
    | (go_at_call 20; refine (d_awake _).mono ?_; rintro e w7 ⟨rfl, hb7⟩; have HB7 := Lib.hid hb7; clear hb7))
  go_ret
  exact ⟨rfl, (HB0.out.trans (HB6.out.mono HB0.out.size)).trans (HB7.out.mono (by have := HB0.out.size; have := HB6.out.size; omega))⟩

end Go.Proofs.Ytccilgemfkdmkaa

namespace Go.Proofs.Ytccilgemfkdmkaa
open Go.ChangeShapes Go.WideShapes Go.ChangeAt Go.RowKit Go.Joins
open Go.ChangeMaps (open_string shut_string)
set_option linter.unusedVariables false

theorem dataWrong_own : ownKnob Try.prog.godebug = none := by kernel_rfl
theorem dataWrong_laidOut : laidOutB Try.prog = true := by kernel_rfl

set_option maxRecDepth 100000 in
theorem dataWrong_lifted (os : Os) (started : os.Started) (H : Type) (enc : TypeId × Value → H) :
    ReturnsInHanded {} Try.checked os 8 .any (Rows.dataWrongSpec.pre6 enc Try.prog Try.f8 Rows.dataWrongRow.domain false) (Rows.dataWrongSpec.post enc Try.prog Try.f8 false true false false) := by
  refine returnsInHanded_of_change (C := Try.checked) dataWrong_own started (by kernel_rfl) Try.func8
    (ChangeSpec.witness6 (enc := enc) (C := Try.checked) false ⟨#[], #[.int .u8 0], []⟩ 8 (by kernel_rfl) (by kernel_rfl) (by kernel_rfl) (by kernel_rfl)) ?_
  intro W base args ds gs before hval0 hW hcnd _
  have hval : ∀ (j : Nat) t v, Try.f8.params[j]? = some t → args[j]? = some v → Value.okWide Try.prog W .any base t v := hval0
  have hW' := hW
  obtain ⟨p, q, hA0, hV, rfl, hfz, hnd⟩ := hW
  have hA : DataW.TrodAll enc Try.prog W 0 (fun _ => true) true Try.f8.params.toList args.toList ds p := hA0
  rw [Try.params8] at hA hval
  obtain ⟨v0, vs0, d0, ds0, p0, q0, hargs, rfl, rfl, h0, r0⟩ := trodAll_cons hA
  obtain ⟨rfl, rfl, rfl⟩ := trodAll_nil r0
  obtain rfl : args = #[v0] := by cases args; simp_all
  obtain ⟨rfl, rfl⟩ := trodVars_none hV
  have k0 := h0
  have lt0 : ∀ x ∈ p0, x.block < W.heap.size := by obtain ⟨m, hm⟩ := k0; exact DataW.trod_lt m _ _ _ hm
  obtain ⟨n, rfl, rfl, rfl, wf_n⟩ := open_int Try.underlying5 (hval 0 5 v0 rfl rfl) h0
  have bd_n : 0 ≤ n ∧ n ≤ 255 := by have h := wf_n; simp [Lit.wf, IntKind.min, IntKind.max, IntKind.signed, IntKind.bits] at h; omega
  obtain ⟨k_n, rfl⟩ : ∃ k : Nat, n = k := ⟨n.toNat, by omega⟩
  clear hA0 hval0
  refine (data_wrong_law k_n W (by omega)).mono fun e W' ⟨he, bel⟩ => ?_
  subst he
  exact ⟨_, rfl, _, _, _, [], _, [], hW', trodAll_mk1 (shut_bool Try.underlying4 _), (trodAll_cons_mk (Below.trod dataWrong_laidOut (by kernel_rfl) (of_decide_eq_true (by kernel_rfl)) k0 bel lt0) trodAll_mk0), rfl, bel.frame _, fun h => by cases h⟩

theorem dataWrong_holds : Rows.DataWrongSaid :=
  OpenClaim.holds_of_wide 8 Try.f8 rfl rfl rfl rfl rfl rfl rfl ⟨rfl, rfl, rfl, rfl, rfl⟩ rfl rfl rfl rfl rfl (by kernel_rfl) Try.func8 (by kernel_rfl)
    (of_decide_eq_true (by kernel_rfl)) (by unfold Func.isWrapper; first | (rw [if_pos (by decide +kernel)]; kernel_rfl) | (rw [if_neg (by decide +kernel)]; exact ⟨rfl, rfl⟩))
    (fun os started H enc _ => dataWrong_lifted os started H enc)
#print axioms dataWrong_holds

end Go.Proofs.Ytccilgemfkdmkaa
