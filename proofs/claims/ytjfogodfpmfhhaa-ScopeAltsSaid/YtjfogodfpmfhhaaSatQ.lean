/- The law ScopeAlts: an alternative names a Con that there is, once, with as many names as it has, each once. -/
import Derived.Test.YtjfogodfpmfhhaaSAQ
import Derived.Test.YtjfogodfpmfhhaaZJQ
namespace Go.Proofs.Ytjfogodfpmfhhaa
open Go.RowKit Go.Maps
set_option linter.unusedVariables false
set_option linter.unusedSimpArgs false

def atL : List By := [[79, 116, 104, 101, 114, 32, 45, 62, 32, 49], [78, 105, 108, 32, 120, 32, 45, 62, 32, 49], [67, 111, 110, 115, 32, 120, 32, 45, 62, 32, 49], [67, 111, 110, 115, 32, 120, 32, 120, 32, 45, 62, 32, 49], [78, 105, 108, 32, 45, 62, 32, 49, 59, 32, 78, 105, 108, 32, 45, 62, 32, 50], [78, 105, 108, 32, 45, 62, 32, 49, 59, 32, 67, 111, 110, 115, 32, 97, 32, 98, 32, 99, 32, 45, 62, 32, 50]]
def atF : List Nat := [0, 0, 0, 0, 10, 10]
def atM : By := [108, 101, 116, 32, 102, 32, 61, 32, 99, 97, 115, 101, 32, 78, 105, 108, 32, 111, 102, 32, 123]
theorem at_0 : (chkL (headsT ++ atM ++ [79, 116, 104, 101, 114, 32, 45, 62, 32, 49] ++ [125, 59])).1 = 7 ∧ (chkL (headsT ++ atM ++ [79, 116, 104, 101, 114, 32, 45, 62, 32, 49] ++ [125, 59])).2 = 122 := by decide +kernel
theorem at_1 : (chkL (headsT ++ atM ++ [78, 105, 108, 32, 120, 32, 45, 62, 32, 49] ++ [125, 59])).1 = 7 ∧ (chkL (headsT ++ atM ++ [78, 105, 108, 32, 120, 32, 45, 62, 32, 49] ++ [125, 59])).2 = 122 := by decide +kernel
theorem at_2 : (chkL (headsT ++ atM ++ [67, 111, 110, 115, 32, 120, 32, 45, 62, 32, 49] ++ [125, 59])).1 = 7 ∧ (chkL (headsT ++ atM ++ [67, 111, 110, 115, 32, 120, 32, 45, 62, 32, 49] ++ [125, 59])).2 = 122 := by decide +kernel
theorem at_3 : (chkL (headsT ++ atM ++ [67, 111, 110, 115, 32, 120, 32, 120, 32, 45, 62, 32, 49] ++ [125, 59])).1 = 7 ∧ (chkL (headsT ++ atM ++ [67, 111, 110, 115, 32, 120, 32, 120, 32, 45, 62, 32, 49] ++ [125, 59])).2 = 122 := by decide +kernel
theorem at_4 : (chkL (headsT ++ atM ++ [78, 105, 108, 32, 45, 62, 32, 49, 59, 32, 78, 105, 108, 32, 45, 62, 32, 50] ++ [125, 59])).1 = 7 ∧ (chkL (headsT ++ atM ++ [78, 105, 108, 32, 45, 62, 32, 49, 59, 32, 78, 105, 108, 32, 45, 62, 32, 50] ++ [125, 59])).2 = 132 := by decide +kernel
theorem at_5 : (chkL (headsT ++ atM ++ [78, 105, 108, 32, 45, 62, 32, 49, 59, 32, 67, 111, 110, 115, 32, 97, 32, 98, 32, 99, 32, 45, 62, 32, 50] ++ [125, 59])).1 = 7 ∧ (chkL (headsT ++ atM ++ [78, 105, 108, 32, 45, 62, 32, 49, 59, 32, 67, 111, 110, 115, 32, 97, 32, 98, 32, 99, 32, 45, 62, 32, 50] ++ [125, 59])).2 = 132 := by decide +kernel
def atG : By := [78, 105, 108, 32, 45, 62, 32, 49, 59, 32, 67, 111, 110, 115, 32, 97, 32, 98, 32, 45, 62, 32, 50, 59, 32, 78, 111, 110, 101, 32, 45, 62, 32, 51, 125, 59]
theorem at_g : (chkL (headsT ++ atM ++ atG)).1 = 0 := by decide +kernel
theorem at_all (k : Nat) (hk : k < 6) : chkL (headsT ++ atM ++ atL.getD k [] ++ [125, 59]) = (7, (122 : Int) + ((atF.getD k 0 : Nat) : Int)) := by
  have : k = 0 ∨ k = 1 ∨ k = 2 ∨ k = 3 ∨ k = 4 ∨ k = 5 := by omega
  rcases this with rfl | rfl | rfl | rfl | rfl | rfl
  · exact Prod.ext at_0.1 at_0.2
  · exact Prod.ext at_1.1 at_1.2
  · exact Prod.ext at_2.1 at_2.2
  · exact Prod.ext at_3.1 at_3.2
  · exact Prod.ext at_4.1 at_4.2
  · exact Prod.ext at_5.1 at_5.2
set_option maxRecDepth 100000 in
theorem at_len (k : Nat) (hk : k < 6) : (headsT ++ atM ++ atL.getD k [] ++ [125, 59]).length ≤ 1000 := by
  have : ∀ k < 6, (headsT ++ atM ++ atL.getD k [] ++ [125, 59]).length ≤ 1000 := by decide
  exact this k hk
set_option maxRecDepth 100000 in
theorem at_lenG : (headsT ++ atM ++ atG).length ≤ 1000 := by decide

set_option maxRecDepth 100000 in
set_option maxHeartbeats 8000000 in
theorem alts_law (which : Nat) (w : World) (hw : which < 256) :
    Calls Try.prog 12 #[.int .u8 (which : Int)] w fun e w' => e = .returned (.bool true) ∧ Below w.heap.size w w' := by
  obtain ⟨k, hk⟩ : ∃ k, which % 6 = k := ⟨_, rfl⟩
  have hkn : k < 6 := by omega
  have ek1 : (which : Int) % 6 = (k : Int) := by omega
  have ek2 : (which : Int).tmod 6 = (k : Int) := by rw [Int.tmod_eq_emod_of_nonneg (by omega)]; exact ek1
  clear hk
  have g0 : ([.string ⟨#[79, 116, 104, 101, 114, 32, 45, 62, 32, 49]⟩, .string ⟨#[78, 105, 108, 32, 120, 32, 45, 62, 32, 49]⟩, .string ⟨#[67, 111, 110, 115, 32, 120, 32, 45, 62, 32, 49]⟩, .string ⟨#[67, 111, 110, 115, 32, 120, 32, 120, 32, 45, 62, 32, 49]⟩, .string ⟨#[78, 105, 108, 32, 45, 62, 32, 49, 59, 32, 78, 105, 108, 32, 45, 62, 32, 50]⟩, .string ⟨(78 :: 105 :: 108 :: 32 :: 45 :: 62 :: 32 :: 49 :: 59 :: 32 :: 67 :: 111 :: 110 :: 115 :: 32 :: 97 :: 32 :: 98 :: 32 :: 99 :: 32 :: 45 :: 62 :: 32 :: 50 :: ([] : List UInt8)).toArray⟩] : List Value)[k]? = some (.string (strB (atL.getD k []))) := by
    have : k = 0 ∨ k = 1 ∨ k = 2 ∨ k = 3 ∨ k = 4 ∨ k = 5 := by omega
    rcases this with rfl | rfl | rfl | rfl | rfl | rfl <;> rfl
  have c0 : ((w.alloc (.cells #[.string ⟨#[79, 116, 104, 101, 114, 32, 45, 62, 32, 49]⟩, .string ⟨#[78, 105, 108, 32, 120, 32, 45, 62, 32, 49]⟩, .string ⟨#[67, 111, 110, 115, 32, 120, 32, 45, 62, 32, 49]⟩, .string ⟨#[67, 111, 110, 115, 32, 120, 32, 120, 32, 45, 62, 32, 49]⟩, .string ⟨#[78, 105, 108, 32, 45, 62, 32, 49, 59, 32, 78, 105, 108, 32, 45, 62, 32, 50]⟩, .string ⟨(78 :: 105 :: 108 :: 32 :: 45 :: 62 :: 32 :: 49 :: 59 :: 32 :: 67 :: 111 :: 110 :: 115 :: 32 :: 97 :: 32 :: 98 :: 32 :: 99 :: 32 :: 45 :: 62 :: 32 :: 50 :: ([] : List UInt8)).toArray⟩] 9)).alloc (.cells #[.int .i64 0, .int .i64 0, .int .i64 0, .int .i64 0, .int .i64 10, .int .i64 10] 3)).cell? ⟨w.heap.size, k, none⟩ = some (.string (strB (atL.getD k []))) := by
    have h := ((Box.new w 9 [.string ⟨#[79, 116, 104, 101, 114, 32, 45, 62, 32, 49]⟩, .string ⟨#[78, 105, 108, 32, 120, 32, 45, 62, 32, 49]⟩, .string ⟨#[67, 111, 110, 115, 32, 120, 32, 45, 62, 32, 49]⟩, .string ⟨#[67, 111, 110, 115, 32, 120, 32, 120, 32, 45, 62, 32, 49]⟩, .string ⟨#[78, 105, 108, 32, 45, 62, 32, 49, 59, 32, 78, 105, 108, 32, 45, 62, 32, 50]⟩, .string ⟨(78 :: 105 :: 108 :: 32 :: 45 :: 62 :: 32 :: 49 :: 59 :: 32 :: 67 :: 111 :: 110 :: 115 :: 32 :: 97 :: 32 :: 98 :: 32 :: 99 :: 32 :: 45 :: 62 :: 32 :: 50 :: ([] : List UInt8)).toArray⟩]).alloc (.cells #[.int .i64 0, .int .i64 0, .int .i64 0, .int .i64 0, .int .i64 10, .int .i64 10] 3)).cell k
    rw [g0] at h
    simpa using h
  have g1 : ([.int .i64 0, .int .i64 0, .int .i64 0, .int .i64 0, .int .i64 10, .int .i64 10] : List Value)[k]? = some (.int .i64 ((atF.getD k 0 : Nat) : Int)) := by
    have : k = 0 ∨ k = 1 ∨ k = 2 ∨ k = 3 ∨ k = 4 ∨ k = 5 := by omega
    rcases this with rfl | rfl | rfl | rfl | rfl | rfl <;> rfl
  have c1 : ((w.alloc (.cells #[.string ⟨#[79, 116, 104, 101, 114, 32, 45, 62, 32, 49]⟩, .string ⟨#[78, 105, 108, 32, 120, 32, 45, 62, 32, 49]⟩, .string ⟨#[67, 111, 110, 115, 32, 120, 32, 45, 62, 32, 49]⟩, .string ⟨#[67, 111, 110, 115, 32, 120, 32, 120, 32, 45, 62, 32, 49]⟩, .string ⟨#[78, 105, 108, 32, 45, 62, 32, 49, 59, 32, 78, 105, 108, 32, 45, 62, 32, 50]⟩, .string ⟨(78 :: 105 :: 108 :: 32 :: 45 :: 62 :: 32 :: 49 :: 59 :: 32 :: 67 :: 111 :: 110 :: 115 :: 32 :: 97 :: 32 :: 98 :: 32 :: 99 :: 32 :: 45 :: 62 :: 32 :: 50 :: ([] : List UInt8)).toArray⟩] 9)).alloc (.cells #[.int .i64 0, .int .i64 0, .int .i64 0, .int .i64 0, .int .i64 10, .int .i64 10] 3)).cell? ⟨w.heap.size + 1, k, none⟩ = some (.int .i64 ((atF.getD k 0 : Nat) : Int)) := by
    have h := (Box.new (w.alloc (.cells #[.string ⟨#[79, 116, 104, 101, 114, 32, 45, 62, 32, 49]⟩, .string ⟨#[78, 105, 108, 32, 120, 32, 45, 62, 32, 49]⟩, .string ⟨#[67, 111, 110, 115, 32, 120, 32, 45, 62, 32, 49]⟩, .string ⟨#[67, 111, 110, 115, 32, 120, 32, 120, 32, 45, 62, 32, 49]⟩, .string ⟨#[78, 105, 108, 32, 45, 62, 32, 49, 59, 32, 78, 105, 108, 32, 45, 62, 32, 50]⟩, .string ⟨(78 :: 105 :: 108 :: 32 :: 45 :: 62 :: 32 :: 49 :: 59 :: 32 :: 67 :: 111 :: 110 :: 115 :: 32 :: 97 :: 32 :: 98 :: 32 :: 99 :: 32 :: 45 :: 62 :: 32 :: 50 :: ([] : List UInt8)).toArray⟩] 9)) 3 [.int .i64 0, .int .i64 0, .int .i64 0, .int .i64 0, .int .i64 10, .int .i64 10]).cell k
    rw [g1] at h
    simpa using h
  obtain ⟨G, hG⟩ : ∃ G, strB (atL.getD k []) = G := ⟨_, rfl⟩
  obtain ⟨F, hF⟩ : ∃ F : Int, ((atF.getD k 0 : Nat) : Int) = F := ⟨_, rfl⟩
  obtain ⟨Z, hZ⟩ : ∃ Z, strB headsT = Z := ⟨_, rfl⟩
  have hFb : 0 ≤ F ∧ F ≤ 100 := by
    rw [← hF]
    have : ∀ k < 6, atF.getD k 0 ≤ 100 := by decide
    have := this k hkn
    omega
  obtain ⟨hF0, hF1⟩ := hFb
  have hl1 := at_len k hkn
  have hl2 := at_lenG
  simp only [List.length_append] at hl1 hl2
  have e1 := at_all k hkn
  obtain ⟨A0, hA0⟩ : ∃ A0, (chkL (headsT ++ atM ++ atG)).2 = A0 := ⟨_, rfl⟩
  have e2 : chkL (headsT ++ atM ++ atG) = (0, A0) := Prod.ext at_g hA0
  obtain ⟨M, hM⟩ : ∃ M, strB (headsT ++ atM) = M := ⟨_, rfl⟩
  obtain ⟨Y, hY⟩ : ∃ Y, strB (headsT ++ atM ++ atL.getD k []) = Y := ⟨_, rfl⟩
  obtain ⟨X, hX⟩ : ∃ X, strB (headsT ++ atM ++ atL.getD k [] ++ [125, 59]) = X := ⟨_, rfl⟩
  obtain ⟨V, hV⟩ : ∃ V, strB (headsT ++ atM ++ atG) = V := ⟨_, rfl⟩
  have T3 : ∀ W, Sem.run Try.prog (Op.stringOp .add Z (⟨#[108, 101, 116, 32, 102, 32, 61, 32, 99, 97, 115, 101, 32, 78, 105, 108, 32, 111, 102, 32, 123]⟩)) W = .ok (.string M) W := fun W => by
    rw [← hM, ← strB_app, hZ]
    exact run_string_add_sum W Z (strB atM) (by rw [← hZ, strB_size, strB_size]; omega)
  have T4 : ∀ W, Sem.run Try.prog (Op.stringOp .add M G) W = .ok (.string Y) W := fun W => by
    rw [← hY, ← strB_app, hM, hG]
    exact run_string_add_sum W M G (by rw [← hM, ← hG, strB_size, strB_size, List.length_append]; omega)
  have T6 : ∀ W, Sem.run Try.prog (Op.stringOp .add Y ⟨#[125, 59]⟩) W = .ok (.string X) W := fun W => by
    rw [← hX, ← strB_app, hY]
    exact run_string_add_sum W Y (strB [125, 59]) (by rw [← hY, strB_size, strB_size, List.length_append, List.length_append]; have h2 : ([125, 59] : By).length = 2 := rfl; omega)
  have T7 : ∀ W, Sem.run Try.prog (Op.stringOp .add M (⟨(78 :: 105 :: 108 :: 32 :: 45 :: 62 :: 32 :: 49 :: 59 :: 32 :: 67 :: 111 :: 110 :: 115 :: 32 :: 97 :: 32 :: 98 :: 32 :: 45 :: 62 :: 32 :: 50 :: 59 :: 32 :: 78 :: 111 :: 110 :: 101 :: 32 :: 45 :: 62 :: 32 :: 51 :: 125 :: 59 :: ([] : List UInt8)).toArray⟩)) W = .ok (.string V) W := fun W => by
    rw [← hV, ← strB_app, hM]
    exact run_string_add_sum W M (strB atG) (by rw [← hM, strB_size, strB_size, List.length_append]; omega)
  have H1 := Lib.hid (fun (w' : World) => k_heads w' hZ)
  have H2 := Lib.hid (fun (w' : World) => k_check _ w' (by simp only [List.length_append]; omega) e1 hX)
  have H3 := Lib.hid (fun (w' : World) => k_check _ w' (by simp only [List.length_append]; omega) e2 hV)
  rw [hF] at H2
  have hLz : (M.size : Int) = 122 := by rw [← hM, strB_size]; rfl
  rw [show ((122 : Int) + F) = (M.size : Int) + F by omega] at H2
  have hz3 : M.size ≤ 300 := by omega
  clear hLz
  have H4 := Lib.hid (fun (w' : World) => s_awake w')
  rw [hG] at c0
  rw [hF] at c1
  obtain ⟨W0, hW0⟩ : ∃ W0, ((w.alloc (.cells #[.string ⟨#[79, 116, 104, 101, 114, 32, 45, 62, 32, 49]⟩, .string ⟨#[78, 105, 108, 32, 120, 32, 45, 62, 32, 49]⟩, .string ⟨#[67, 111, 110, 115, 32, 120, 32, 45, 62, 32, 49]⟩, .string ⟨#[67, 111, 110, 115, 32, 120, 32, 120, 32, 45, 62, 32, 49]⟩, .string ⟨#[78, 105, 108, 32, 45, 62, 32, 49, 59, 32, 78, 105, 108, 32, 45, 62, 32, 50]⟩, .string ⟨(78 :: 105 :: 108 :: 32 :: 45 :: 62 :: 32 :: 49 :: 59 :: 32 :: 67 :: 111 :: 110 :: 115 :: 32 :: 97 :: 32 :: 98 :: 32 :: 99 :: 32 :: 45 :: 62 :: 32 :: 50 :: ([] : List UInt8)).toArray⟩] 9)).alloc (.cells #[.int .i64 0, .int .i64 0, .int .i64 0, .int .i64 0, .int .i64 10, .int .i64 10] 3)) = W0 := ⟨_, rfl⟩
  have HB0 : Hid (Below w.heap.size w W0) := by show Below _ _ _; rw [← hW0]; exact ((Below.refl _ w).alloc (Nat.le_refl _) _).alloc (by simp) _
  have hs0 : w.heap.size + 1 < W0.heap.size := by rw [← hW0]; simp
  rw [hW0] at c0 c1
  have K : ∀ w', Below W0.heap.size W0 w' → (w'.cell? ⟨w.heap.size, k, none⟩ = some (.string G) ∧ w'.cell? ⟨w.heap.size + 1, k, none⟩ = some (.int .i64 F)) := fun w' hb => ⟨(hb.cell (p := ⟨w.heap.size, k, none⟩) (show w.heap.size < _ by omega)).trans c0, (hb.cell (p := ⟨w.heap.size + 1, k, none⟩) (show w.heap.size + 1 < _ by omega)).trans c1⟩
  have HK := Lib.hid K
  have hkk : (k : Int) < 6 := by omega
  have T1 : ∀ W, Sem.run Try.prog (Instr.indexAt 53 (.slice (some ⟨w.heap.size, 0, none⟩) 6 6) (.int .i64 k)) W = .ok (.pointer (some ⟨w.heap.size, k, none⟩)) W := fun W => by go_simp
  have T2 : ∀ W, Sem.run Try.prog (Instr.indexAt 76 (.slice (some ⟨w.heap.size + 1, 0, none⟩) 6 6) (.int .i64 k)) W = .ok (.pointer (some ⟨w.heap.size + 1, k, none⟩)) W := fun W => by go_simp
  have hwr : IntKind.i64.wrap ((M.size : Int) + F) = (M.size : Int) + F := IntWalk.i64_in _ (by omega)
  clear K g0 g1 hl1 hl2 e1 e2 hG hF hZ hX hY hM hV hA0
  go_enter Try.func12, Try.ntmps12
  go_wp2_with (first
    | (go_at_call 32; (with_reducible refine (H1.out _).mono ?_); rintro e w1 ⟨rfl, hb⟩; have HB1 := Lib.hid hb; obtain ⟨_, _⟩ := HK.out _ hb; have hs1 := hb.size; clear hb)
    | (go_at_call 33; (with_reducible refine (H2.out _).mono ?_); rintro e w2 ⟨rfl, hb⟩; have HB2 := Lib.hid (HB1.out.trans (hb.mono HB1.out.size)); obtain ⟨_, _⟩ := HK.out _ HB2.out; have hs2 := HB2.out.size; clear hb)
    | (go_at_call 33; (with_reducible refine (H3.out _).mono ?_); rintro e w3 ⟨rfl, hb⟩; have HB3 := Lib.hid (HB2.out.trans (hb.mono HB2.out.size)); obtain ⟨_, _⟩ := HK.out _ HB3.out; have hs3 := HB3.out.size; clear hb)
    | (go_at_call 29; (with_reducible refine (H4.out _).mono ?_); rintro e w4 ⟨rfl, hb⟩; have HB4 := Lib.hid (HB3.out.trans (hb.mono HB3.out.size)); clear hb))
  go_ret
  exact ⟨rfl, HB0.out.trans (HB4.out.mono HB0.out.size)⟩

end Go.Proofs.Ytjfogodfpmfhhaa
