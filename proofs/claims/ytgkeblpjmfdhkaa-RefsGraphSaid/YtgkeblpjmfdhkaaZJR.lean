/- Mathematics of lexing: what stands behind a line end; places moved; what is between. No program. Contract of the statements' Words: a text by numbers. Mathematics of numbers of digits; the contract of the statements' own Digits. Contract of the statements' own Digits. The statements' texts by numbers: the mathematics. No program. The statements' texts by numbers: half, atom, expr: what is asked of both; half; atom. The statements' texts by numbers: atom. -/
import Derived.Test.YtgkeblpjmfdhkaaZAR
import Derived.Deep.QuietTactic
import Derived.Laws.BytesArg
import Derived.Deep.CutRange
import Derived.Deep.Strs
namespace Go.Proofs.Ytgkeblpjmfdhkaa
set_option linter.unusedVariables false
set_option linter.unusedSimpArgs false

theorem rowL_nl {p : Nat → Bool} (hp : p 10 = false) (r : By) : ∀ t : By, rowL p (t ++ 10 :: r) = rowL p t
  | [] => by rw [List.nil_append, rowL_no (by show ¬ p 10 = true; rw [hp]; simp)]; rfl
  | c :: t => by
    rw [List.cons_append]
    by_cases h : p c.toNat = true
    · rw [rowL_yes h, rowL_yes h, rowL_nl hp r t]
    · rw [rowL_no h, rowL_no h]
theorem drop_app {α : Type} (t r : List α) (k : Nat) (h : k ≤ t.length) : (t ++ r).drop k = t.drop k ++ r := by
  rw [List.drop_append]; simp [show k - t.length = 0 by omega]
theorem head_app (t r : By) (x : UInt8) (hx : x ≠ 10) : (t ++ 10 :: r).head? = some x ↔ t.head? = some x := by
  cases t with
  | nil => simp; exact fun h => hx h.symm
  | cons a b => simp
theorem tokL_nl (b : UInt8) (t r : By) : tokL (b :: (t ++ 10 :: r)) = tokL (b :: t) := by
  rw [tokL_cons, tokL_cons, ← List.cons_append, rowL_nl (p := resN) rfl, rowL_nl (p := digN) rfl]
  have : (b.toNat = 45 ∧ (t ++ 10 :: r).head? = some 62) ↔ (b.toNat = 45 ∧ t.head? = some 62) := by rw [head_app t r 62 (by decide)]
  simp only [this]

theorem lexL_nl (r : By) : ∀ (n : Nat) (a : By) (i : Nat), a.length ≤ n → (∀ j, lexL a i = .bad j → lexL (a ++ 10 :: r) i = .bad j) ∧ (∀ ts, lexL a i = .ok ts → lexL (a ++ 10 :: r) i = (lexL (10 :: r) (i + a.length)).pre ts)
  | n, [], i, _ => ⟨fun j h => (Lx.bad_ok h.symm).elim, fun ts h => by obtain rfl := Lx.ok_inj h; rw [Lx.pre_nil]; rfl⟩
  | 0, b :: t, i, h => by simp at h
  | n + 1, b :: t, i, hn => by
    simp only [List.length_cons] at hn
    rw [List.cons_append]
    cases hb : blaN b.toNat
    · by_cases hr : b.toNat = 45 ∧ t.head? = some 45
      · have hr2 : b.toNat = 45 ∧ (t ++ 10 :: r).head? = some 45 := ⟨hr.1, (head_app t r 45 (by decide)).2 hr.2⟩
        have hle := rowL_le noNl t
        have ih := lexL_nl r n (t.drop (rowL noNl t).length) (i + 1 + (rowL noNl t).length) (by rw [List.length_drop]; omega)
        rw [lexL_rem i hr.1 hr.2, lexL_rem i hr2.1 hr2.2, rowL_nl (p := noNl) rfl, drop_app _ _ _ hle]
        refine ⟨ih.1, fun ts h => ?_⟩
        rw [ih.2 ts h, List.length_drop, List.length_cons]
        congr 2; omega
      · have hr2 : ¬ (b.toNat = 45 ∧ (t ++ 10 :: r).head? = some 45) := fun h => hr ⟨h.1, (head_app t r 45 (by decide)).1 h.2⟩
        have ht := tokL_nl b t r
        cases hk : tokL (b :: t) with
        | none =>
          rw [lexL_bad i hb hr hk, lexL_bad i hb hr2 (by rw [ht]; exact hk)]
          exact ⟨fun j h => h, fun ts h => (Lx.bad_ok h).elim⟩
        | some x =>
          have hp := tokL_pos hk
          have ih := lexL_nl r n ((b :: t).drop x.w) (i + x.w) (by simp only [List.length_drop, List.length_cons]; omega)
          rw [lexL_tok i hb hr hk, lexL_tok i hb hr2 (by rw [ht]; exact hk), ← List.cons_append, drop_app _ _ _ hp.2]
          refine ⟨fun j h => ?_, fun ts h => ?_⟩
          · rcases Lx.cases (lexL ((b :: t).drop x.w) (i + x.w)) with ⟨q, hq⟩ | ⟨l, hq⟩
            · rw [ih.1 q hq]; rw [hq] at h; exact h
            · rw [hq] at h; exact (Lx.bad_ok h.symm).elim
          · rcases Lx.cases (lexL ((b :: t).drop x.w) (i + x.w)) with ⟨q, hq⟩ | ⟨l, hq⟩
            · rw [hq] at h; exact (Lx.bad_ok h).elim
            · rw [hq, Lx.pre_ok] at h
              obtain rfl := Lx.ok_inj h
              rw [ih.2 l hq, Lx.pre_pre, List.length_drop]
              congr 2
              have := hp.2
              simp only [List.length_cons] at this ⊢
              omega
    · have ih := lexL_nl r n t (i + 1) (by omega)
      rw [lexL_blank i hb, lexL_blank i hb]
      refine ⟨ih.1, fun ts h => ?_⟩
      rw [ih.2 ts h, List.length_cons]
      congr 2; omega

def Tk.mv (d : Nat) (t : Tk) : Tk := ⟨t.k, t.p + d, t.s, t.n⟩
def Lx.mv (d : Nat) : Lx → Lx
  | Sum.inl i => Lx.bad (i + d)
  | Sum.inr l => Lx.ok (l.map (Tk.mv d))
theorem Lx.mv_pre (d : Nat) (ts : List Tk) (x : Lx) : (x.pre ts).mv d = (x.mv d).pre (ts.map (Tk.mv d)) := by
  rcases Lx.cases x with ⟨i, rfl⟩ | ⟨l, rfl⟩
  · rfl
  · show Lx.ok ((ts ++ l).map _) = Lx.ok (ts.map _ ++ l.map _)
    rw [List.map_append]
theorem lexL_mv (d : Nat) : ∀ (n : Nat) (a : By) (i : Nat), a.length ≤ n → lexL a (i + d) = (lexL a i).mv d
  | n, [], i, _ => rfl
  | 0, b :: t, i, h => by simp at h
  | n + 1, b :: t, i, hn => by
    simp only [List.length_cons] at hn
    cases hb : blaN b.toNat
    · by_cases hr : b.toNat = 45 ∧ t.head? = some 45
      · have hle := rowL_le noNl t
        rw [lexL_rem _ hr.1 hr.2, lexL_rem _ hr.1 hr.2, ← lexL_mv d n _ _ (by rw [List.length_drop]; omega)]
        congr 1; omega
      · cases hk : tokL (b :: t) with
        | none => rw [lexL_bad _ hb hr hk, lexL_bad _ hb hr hk]; rfl
        | some x =>
          have hp := tokL_pos hk
          rw [lexL_tok _ hb hr hk, lexL_tok _ hb hr hk, Lx.mv_pre, ← lexL_mv d n _ _ (by simp only [List.length_drop, List.length_cons]; omega)]
          show (lexL _ (i + d + x.w)).pre [x.at (i + d)] = (lexL _ (i + x.w + d)).pre [x.at (i + d)]
          congr 2; omega
    · rw [lexL_blank _ hb, lexL_blank _ hb, ← lexL_mv d n t (i + 1) (by omega)]
      congr 1; omega
theorem lexL_at (a : By) (i : Nat) : lexL a i = (lexL a 0).mv i := by
  have := lexL_mv i a.length a 0 (Nat.le_refl _)
  rwa [Nat.zero_add] at this
end Go.Proofs.Ytgkeblpjmfdhkaa

namespace Go.Proofs.Ytgkeblpjmfdhkaa
open Go.RowKit
set_option linter.unusedVariables false
set_option linter.unusedSimpArgs false

theorem strB_app (a b : By) : strB a ++ strB b = strB (a ++ b) := by
  apply ByteArray.ext; simp [strB]
end Go.Proofs.Ytgkeblpjmfdhkaa

namespace Go.Proofs.Ytgkeblpjmfdhkaa
open Go.RowKit
set_option linter.unusedVariables false
set_option linter.unusedSimpArgs false

def dg (n : Nat) : UInt8 := UInt8.ofNat (48 + n % 10)
/-- The digits of a number, with fuel. -/
def digF : Nat → Nat → By
  | 0, n => [dg n]
  | f + 1, n => if n < 10 then [dg n] else digF f (n / 10) ++ [dg n]
def digL (n : Nat) : By := digF n n
theorem digF_eq : ∀ (f g n : Nat), n ≤ f → n ≤ g → digF f n = digF g n
  | 0, 0, n, _, _ => rfl
  | 0, g + 1, n, h, _ => by
    have : n = 0 := by omega
    subst this; rfl
  | f + 1, 0, n, _, h => by
    have : n = 0 := by omega
    subst this; rfl
  | f + 1, g + 1, n, h1, h2 => by
    unfold digF
    by_cases hn : n < 10
    · rw [if_pos hn, if_pos hn]
    · rw [if_neg hn, if_neg hn, digF_eq f g (n / 10) (by omega) (by omega)]
theorem digL_small {n : Nat} (h : n < 10) : digL n = [dg n] := by
  unfold digL
  cases n with
  | zero => rfl
  | succ m => unfold digF; rw [if_pos h]
theorem digL_big {n : Nat} (h : ¬ n < 10) : digL n = digL (n / 10) ++ [dg n] := by
  unfold digL
  cases n with
  | zero => omega
  | succ m =>
    conv => lhs; unfold digF
    rw [if_neg h, digF_eq m ((m + 1) / 10) ((m + 1) / 10) (by omega) (by omega)]
theorem digL_len : ∀ (f n : Nat), n < 10 ^ f → (digL n).length ≤ f + 1
  | 0, n, h => by rw [digL_small (by omega)]; simp
  | f + 1, n, h => by
    by_cases hn : n < 10
    · rw [digL_small hn]; simp
    · have := digL_len f (n / 10) (by rw [Nat.pow_succ] at h; omega)
      rw [digL_big hn, List.length_append]; simp; omega

end Go.Proofs.Ytgkeblpjmfdhkaa

namespace Go.Proofs.Ytgkeblpjmfdhkaa
open Go.RowKit
set_option linter.unusedVariables false
set_option linter.unusedSimpArgs false

theorem dig_str (n : Nat) (d : Nat) (hq : n % 10 = d) (W : World) (b : Nat) (h : W.cell? ⟨b, 0, none⟩ = some (.int .u8 (48 + (d : Int)))) :
    (convert 22 9 (.slice (some ⟨b, 0, none⟩) 1 1)).run Try.prog W = .ok (.string (strB [dg n])) W := by
  have h2 := run_convert_bytes_arg W 22 5 Try.underlying22 Try.underlying5 b 0 1 1 [48 + (d : Int)] rfl (fun i hi => by have hi0 : i = 0 := (by omega); rw [hi0]; exact h) 9 Try.underlying9
  rw [h2]
  have : strOfNums [48 + (d : Int)] = strB [dg n] := by
    have e : (48 + (d : Int)).toNat = 48 + d := by omega
    show ByteArray.mk #[UInt8.ofNat (48 + (d : Int)).toNat] = ByteArray.mk #[UInt8.ofNat (48 + n % 10)]
    rw [e, hq]
  rw [this]

set_option maxRecDepth 100000 in
set_option maxHeartbeats 2000000 in
theorem digits_any (n : Nat) (w : World) (hn : n ≤ 4294967296) :
    Calls Try.prog 39 #[.int .i64 (n : Int)] w fun e w' => e = .returned (.string (strB (digL n))) ∧ Below w.heap.size w w' := by
  have hlen := digL_len 10 n (by omega)
  have HLEN := Lib.hid hlen
  clear hlen
  go_enter Try.func39, Try.ntmps39
  go_wp2_with fail
  go_loopg [0, 3] (n) (fun gn i s wr => ∃ (m : Nat) (X : By), m ≤ gn ∧ i = .int .i64 (m : Int) ∧ s = .string (strB X) ∧ m ≤ n ∧ Hid (digL m ++ X = digL n) ∧ Hid (Below w.heap.size w wr))
  case atStart => exact ⟨n, [], Nat.le_refl _, rfl, rfl, Nat.le_refl _, List.append_nil _, Below.refl _ _⟩
  case round =>
    obtain ⟨m, X, hmg, rfl, rfl, hmn, HD, HB⟩ := hrel
    obtain ⟨d, hd⟩ : ∃ d, m % 10 = d := ⟨_, rfl⟩
    have e1 : (m : Int) % 10 = (d : Int) := by omega
    have e2 : (m : Int).tmod 10 = (d : Int) := by rw [Int.tmod_eq_emod_of_nonneg (by omega)]; exact e1
    have hd9 : d ≤ 9 := by omega
    have hX : X.length ≤ 11 := by
      have h1 := congrArg List.length HD.out
      rw [List.length_append] at h1
      have := HLEN.out
      omega
    have hsz := strB_size X
    have T3 : ∀ W, Sem.run Try.prog (Op.stringOp .add (strB [dg m]) (strB X)) W = .ok (.string (strB (dg m :: X))) W := fun W => by rw [run_string_add_sum W _ _ (by rw [strB_size, strB_size]; simp; omega), strB_app]; rfl
    have hB := dig_str m d hd
    by_cases hlt : m < 10
    · have hdm : d = m := by omega
      subst hdm
      have HW := Lib.hid (HB.out.alloc HB.out.size (.cells #[.int .u8 (48 + (d : Int))] 5))
      have hfin : digL n = dg d :: X := by rw [← HD.out, digL_small hlt]; rfl
      have HFIN := Lib.hid hfin
      clear hd hfin
      go_wp2_with fail
      go_ret
      exact ⟨ret_of (by rw [HFIN.out]; rfl), HW.out⟩
    · have HW := Lib.hid (HB.out.alloc HB.out.size (.cells #[.int .u8 (48 + (d : Int))] 5))
      obtain ⟨m2, hm2⟩ : ∃ m2, m / 10 = m2 := ⟨_, rfl⟩
      have e5 : (m : Int) / 10 = (m2 : Int) := by omega
      have e6 : (m : Int).tdiv 10 = (m2 : Int) := by rw [Int.tdiv_eq_ediv_of_nonneg (by omega)]; exact e5
      have HD2 : Hid (digL m2 ++ (dg m :: X) = digL n) := by show _ = _; rw [← HD.out, digL_big hlt, hm2]; simp
      have hm9 : m2 < m := by omega
      clear hd hm2
      go_wp2_with fail
      go_roundg (m2)
      case measure => omega
      case rel => exact ⟨m2, _, Nat.le_refl _, by go_num, rfl, by omega, HD2.out, HW.out⟩

end Go.Proofs.Ytgkeblpjmfdhkaa

namespace Go.Proofs.Ytgkeblpjmfdhkaa
set_option linter.unusedVariables false
set_option linter.unusedSimpArgs false

end Go.Proofs.Ytgkeblpjmfdhkaa

namespace Go.Proofs.Ytgkeblpjmfdhkaa
open Go.RowKit
set_option linter.unusedVariables false
set_option linter.unusedSimpArgs false

/-- A slice of bytes, read. -/
structure RB (w : World) (a : Option Addr) (l c : Nat) (xs : List Nat) : Prop where
  row : RowF (fun n : Nat => Value.int .u8 (n : Int)) (0 : Nat) 0 w.heap.size w a l xs
  le : ∀ x ∈ xs, x ≤ 255
  cap : l ≤ c
  small : c ≤ 9223372036854775807
end Go.Proofs.Ytgkeblpjmfdhkaa

namespace Go.Proofs.Ytgkeblpjmfdhkaa
open Go.RowKit
set_option linter.unusedVariables false
set_option linter.unusedSimpArgs false

end Go.Proofs.Ytgkeblpjmfdhkaa
