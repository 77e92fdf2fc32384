/- The walk of the law HashKnown: it returns true and changes nothing that was there. -/
import Derived.Test.YtimnhfppondnaaaHlall
namespace Go.Proofs.Ytimnhfppondnaaa
open Go.RowKit
set_option linter.unusedVariables false

/-- The eight bytes behind a name. -/
def eight (a b : Int) : ByteArray := strOfNums [a, 0, 0, 0, b, 0, 0, 0]
theorem eight_str (a b : Int) (W : World) (g : Nat) (h0 : W.cell? ⟨g, 0, none⟩ = some (.int .u8 a)) (h1 : W.cell? ⟨g, 1, none⟩ = some (.int .u8 0)) (h2 : W.cell? ⟨g, 2, none⟩ = some (.int .u8 0)) (h3 : W.cell? ⟨g, 3, none⟩ = some (.int .u8 0))
    (h4 : W.cell? ⟨g, 4, none⟩ = some (.int .u8 b)) (h5 : W.cell? ⟨g, 5, none⟩ = some (.int .u8 0)) (h6 : W.cell? ⟨g, 6, none⟩ = some (.int .u8 0)) (h7 : W.cell? ⟨g, 7, none⟩ = some (.int .u8 0)) :
    (convert 31 9 (.slice (some ⟨g, 0, none⟩) 8 8)).run Try.prog W = .ok (.string (eight a b)) W :=
  run_convert_bytes_arg W 31 5 Try.underlying31 Try.underlying5 g 0 8 8 [a, 0, 0, 0, b, 0, 0, 0] rfl (fun i hi => by
    rw [Nat.zero_add]
    rcases (by omega : i = 0 ∨ i = 1 ∨ i = 2 ∨ i = 3 ∨ i = 4 ∨ i = 5 ∨ i = 6 ∨ i = 7) with e | e | e | e | e | e | e | e <;> subst e <;> assumption) 9 Try.underlying9
theorem eight_size (a b : Int) : (eight a b).size = 8 := rfl
theorem eight_sum (s : ByteArray) (a b c : Int) (ha : 0 ≤ a ∧ a ≤ 255) (hb : 0 ≤ b ∧ b ≤ 255) (hc : c = a ∨ c = a + 4294967296) : sumI (s ++ eight a b).data.toList = keyI s.data.toList c b := by
  rw [← sumI_key]
  congr 1
  have e1 : c % 256 = a := by omega
  have e2 : c / 256 % 256 = 0 := by omega
  have e3 : c / 65536 % 256 = 0 := by omega
  have e4 : c / 16777216 % 256 = 0 := by omega
  have f1 : b % 256 = b := by omega
  have f2 : b / 256 % 256 = 0 := by omega
  have f3 : b / 65536 % 256 = 0 := by omega
  have f4 : b / 16777216 % 256 = 0 := by omega
  unfold keyS eight
  rw [e1, e2, e3, e4, f1, f2, f3, f4]
  simp [strOfNums]

theorem wrap_byte (a : Nat) (h : a ≤ 255) : IntKind.i64.wrap (a : Int) = (a : Int) := by rw [IntKind.wrap_i64]; omega
theorem wrap_byte2 (a : Nat) (h : a ≤ 255) : IntKind.i64.wrap ((a : Int) + 4294967296) = (a : Int) + 4294967296 := by rw [IntKind.wrap_i64]; omega
def knownS : List ByteArray := [⟨#[]⟩, ⟨#[97]⟩, ⟨#[102, 111, 111, 98, 97, 114]⟩, ⟨#[104, 101, 108, 108, 111]⟩]
def knownN : List Int := [2166136261, 3826002220, 3214735720, 1335831723]
theorem known_ok : ∀ k, k < 4 → (knownS.getD k ⟨#[]⟩).size ≤ 6 ∧ sumI (knownS.getD k ⟨#[]⟩).data.toList = knownN.getD k 0 := by decide +kernel

set_option maxRecDepth 1000000 in
set_option maxHeartbeats 1000000 in
theorem known_law (p a b : Nat) (w : World) (hp : p ≤ 255) (ha : a ≤ 255) (hb : b ≤ 255) :
    Calls Try.prog 6 #[.int .u8 (p : Int), .int .u8 (a : Int), .int .u8 (b : Int)] w fun e w' => e = .returned (.bool true) ∧ Below w.heap.size w w' := by
  obtain ⟨k, hk⟩ : ∃ k, p % 4 = k := ⟨_, rfl⟩
  have hk4 : k < 4 := by omega
  have m1 : (p : Int) % 4 = (k : Int) := by omega
  have hE := eight_str (a : Int) (b : Int)
  have hko := known_ok k hk4
  obtain ⟨L, hL⟩ : ∃ L, knownS.getD k ⟨#[]⟩ = L := ⟨_, rfl⟩
  obtain ⟨N, hN⟩ : ∃ N, knownN.getD k 0 = N := ⟨_, rfl⟩
  rw [hL, hN] at hko
  have HL := Lib.hid hL
  have HN := Lib.hid hN
  have HO := Lib.hid hko
  have HM := Lib.hid m1
  clear hk hL hN hko m1
  go_enter Try.func6, Try.ntmps6
  go_wp2_with fail
  rw [HM.out]
  have kk : Below w.heap.size w (((w.alloc (.cells #[.string ⟨#[]⟩, .string ⟨#[97]⟩, .string ⟨#[102, 111, 111, 98, 97, 114]⟩, .string ⟨#[104, 101, 108, 108, 111]⟩] 9)).alloc
    (.cells #[.int .u32 2166136261, .int .u32 3826002220, .int .u32 3214735720, .int .u32 1335831723] 25)).alloc
    (.cells #[.int .u8 a, .int .u8 0, .int .u8 0, .int .u8 0, .int .u8 b, .int .u8 0, .int .u8 0, .int .u8 0] 5)) := by go_grown
  have b1 := ((Box.new w 9 [.string ⟨#[]⟩, .string ⟨#[97]⟩, .string ⟨#[102, 111, 111, 98, 97, 114]⟩, .string ⟨#[104, 101, 108, 108, 111]⟩]).alloc
    (.cells #[.int .u32 2166136261, .int .u32 3826002220, .int .u32 3214735720, .int .u32 1335831723] 25)).alloc
    (.cells #[.int .u8 a, .int .u8 0, .int .u8 0, .int .u8 0, .int .u8 b, .int .u8 0, .int .u8 0, .int .u8 0] 5)
  have b2 := (Box.new (w.alloc (.cells #[.string ⟨#[]⟩, .string ⟨#[97]⟩, .string ⟨#[102, 111, 111, 98, 97, 114]⟩, .string ⟨#[104, 101, 108, 108, 111]⟩] 9)) 25 [.int .u32 2166136261, .int .u32 3826002220, .int .u32 3214735720, .int .u32 1335831723]).alloc
    (.cells #[.int .u8 a, .int .u8 0, .int .u8 0, .int .u8 0, .int .u8 b, .int .u8 0, .int .u8 0, .int .u8 0] 5)
  rw [World.size_alloc] at b2
  generalize (((w.alloc (.cells #[.string ⟨#[]⟩, .string ⟨#[97]⟩, .string ⟨#[102, 111, 111, 98, 97, 114]⟩, .string ⟨#[104, 101, 108, 108, 111]⟩] 9)).alloc
    (.cells #[.int .u32 2166136261, .int .u32 3826002220, .int .u32 3214735720, .int .u32 1335831723] 25)).alloc
    (.cells #[.int .u8 a, .int .u8 0, .int .u8 0, .int .u8 0, .int .u8 b, .int .u8 0, .int .u8 0, .int .u8 0] 5)) = w3 at *
  have c1 : ∀ w', Below w3.heap.size w3 w' → w'.cell? ⟨w.heap.size, k, none⟩ = some (.string L) := fun w' h => by
    rw [(b1.below h).cell k, ← HL.out]
    rcases (by omega : k = 0 ∨ k = 1 ∨ k = 2 ∨ k = 3) with e | e | e | e <;> rw [e] <;> rfl
  have c2 : ∀ w', Below w3.heap.size w3 w' → w'.cell? ⟨w.heap.size + 1, k, none⟩ = some (.int .u32 N) := fun w' h => by
    rw [(b2.below h).cell k, ← HN.out]
    rcases (by omega : k = 0 ∨ k = 1 ∨ k = 2 ∨ k = 3) with e | e | e | e <;> rw [e] <;> rfl
  have K : ∀ w', Below w3.heap.size w3 w' → (Below w3.heap.size w3 w' ∧ w'.cell? ⟨w.heap.size, k, none⟩ = some (.string L) ∧ w'.cell? ⟨w.heap.size + 1, k, none⟩ = some (.int .u32 N)) :=
    fun w' h => ⟨h, c1 w' h, c2 w' h⟩
  obtain ⟨y, hy⟩ : ∃ y, keyI L.data.toList a b = y := ⟨_, rfl⟩
  obtain ⟨S, hS⟩ : ∃ S, eight (a : Int) (b : Int) = S := ⟨_, rfl⟩
  have z1 : L.size ≤ 6 := HO.out.1
  have z2 : S.size ≤ 8 := by rw [← hS, eight_size]; omega
  have q1 : keyI L.data.toList ((a : Int) + 4294967296) b = y := by rw [← eight_sum L a b _ (by omega) (by omega) (.inr rfl), eight_sum L a b a (by omega) (by omega) (.inl rfl), hy]
  have q2 : sumI (L ++ S).data.toList = y := by rw [← hS, eight_sum L a b a (by omega) (by omega) (.inl rfl), hy]
  have HK := Lib.hid K
  have H1 := Lib.hid (sum_below L w3 (by unfold maxLen; omega) N HO.out.2)
  have H2 := Lib.hid (sum_below (L ++ S) w3 (by rw [size_app]; unfold maxLen; omega) y q2)
  have H3 := Lib.hid (key_below L a b w3 (by unfold maxLen; omega) y hy)
  have H4 := Lib.hid (key_below L ((a : Int) + 4294967296) b w3 (by unfold maxLen; omega) y q1)
  have H7 := Lib.hid (awk_below w3)
  have HD := Lib.hid kk
  rw [hS]
  have hsz : w.heap.size ≤ w3.heap.size := HD.out.size
  have wr := wrap_byte2 a ha
  have i0 : (0 : Int) ≤ (k : Int) := by omega
  have i4 : (k : Int) < 4 := by omega
  have T1 : ∀ W, Sem.run Try.prog (Instr.indexAt 34 (.slice (some ⟨w.heap.size, 0, none⟩) 4 4) (.int .i64 k)) W = .ok (.pointer (some ⟨w.heap.size, k, none⟩)) W := fun W => by go_simp
  have T2 : ∀ W, Sem.run Try.prog (Instr.indexAt 35 (.slice (some ⟨w.heap.size + 1, 0, none⟩) 4 4) (.int .i64 k)) W = .ok (.pointer (some ⟨w.heap.size + 1, k, none⟩)) W := fun W => by go_simp
  have T3 : ∀ W, Sem.run Try.prog (Op.stringOp .add L S) W = .ok (.string (L ++ S)) W := fun W => run_string_add_sum W L S (by omega)
  have wa := wrap_byte a ha
  have wb := wrap_byte b hb
  clear kk b1 b2 c1 c2 K hy q1 q2 hS hE HO HL HN HM
  go_region_held3 (fun w' => Below w3.heap.size w3 w' ∧ w'.cell? ⟨w.heap.size, k, none⟩ = some (.string L) ∧ w'.cell? ⟨w.heap.size + 1, k, none⟩ = some (.int .u32 N))
    (first
      | exact HK.out _ (Below.refl _ _).drew
      | exact HK.out _ (below_next (And.left (by assumption)) hbz (Nat.le_refl _)))
    (first
      | (go_at_call 8; (with_reducible refine (H1.out _ ?_).mono ?_); exact And.left (by assumption); rintro e wz ⟨rfl, hbz⟩)
      | (go_at_call 8; (with_reducible refine (H2.out _ ?_).mono ?_); exact And.left (by assumption); rintro e wz ⟨rfl, hbz⟩)
      | (go_at_call 10; (with_reducible refine (H3.out _ ?_).mono ?_); exact And.left (by assumption); rintro e wz ⟨rfl, hbz⟩)
      | (go_at_call 10; (with_reducible refine (H4.out _ ?_).mono ?_); exact And.left (by assumption); rintro e wz ⟨rfl, hbz⟩)
      | (go_at_call 7; (with_reducible refine (H7.out _ ?_).mono ?_); exact And.left (by assumption); rintro e wz ⟨rfl, hbz⟩))
  go_wp2
  go_ret
  refine ⟨rfl, HD.out.trans (Below.mono (B := w3.heap.size) ?_ hsz)⟩
  exact And.left (by assumption)

end Go.Proofs.Ytimnhfppondnaaa
