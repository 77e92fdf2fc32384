/- Mathematics of numbers of digits; the contract of the statements' own Digits. -/
import Derived.Test.YtdhkcbkeehameaaLexM
import Derived.Test.YtdhkcbkeehameaaLexwd
namespace Go.Proofs.Ytdhkcbkeehameaa
open Go.RowKit
set_option linter.unusedVariables false
set_option linter.unusedSimpArgs false

def dg (n : Nat) : UInt8 := UInt8.ofNat (48 + n % 10)
theorem dg_toNat (n : Nat) : (dg n).toNat = 48 + n % 10 := by
  unfold dg
  rw [UInt8.toNat_ofNat']
  omega
theorem dg_dig (n : Nat) : digN (dg n).toNat = true := by
  rw [dg_toNat]; simp [digN]; omega
/-- The digits of a number, with fuel. -/
def digF : Nat → Nat → By
  | 0, n => [dg n]
  | f + 1, n => if n < 10 then [dg n] else digF f (n / 10) ++ [dg n]
def digL (n : Nat) : By := digF n n
theorem digF_eq : ∀ (f g n : Nat), n ≤ f → n ≤ g → digF f n = digF g n
  | 0, 0, n, _, _ => rfl
  | 0, g + 1, n, h, _ => by
    have : n = 0 := by omega
    subst this; rfl
  | f + 1, 0, n, _, h => by
    have : n = 0 := by omega
    subst this; rfl
  | f + 1, g + 1, n, h1, h2 => by
    unfold digF
    by_cases hn : n < 10
    · rw [if_pos hn, if_pos hn]
    · rw [if_neg hn, if_neg hn, digF_eq f g (n / 10) (by omega) (by omega)]
theorem digL_small {n : Nat} (h : n < 10) : digL n = [dg n] := by
  unfold digL
  cases n with
  | zero => rfl
  | succ m => unfold digF; rw [if_pos h]
theorem digL_big {n : Nat} (h : ¬ n < 10) : digL n = digL (n / 10) ++ [dg n] := by
  unfold digL
  cases n with
  | zero => omega
  | succ m =>
    conv => lhs; unfold digF
    rw [if_neg h, digF_eq m ((m + 1) / 10) ((m + 1) / 10) (by omega) (by omega)]
theorem numL_app1 (l : By) (c : UInt8) : numL (l ++ [c]) = numL l * 10 + (c.toNat - 48) := by
  unfold numL; rw [List.foldl_append]; rfl
theorem digL_all : ∀ (f n : Nat), n ≤ f → (digL n).all (fun c => digN c.toNat) = true ∧ numL (digL n) = n ∧ digL n ≠ [] ∧ (1 ≤ n → ((digL n).headD 0).toNat ≠ 48)
  | f, n, hf => by
    by_cases h : n < 10
    · rw [digL_small h]
      refine ⟨by simp [dg_dig], ?_, by simp, fun h1 => ?_⟩
      · show 0 * 10 + ((dg n).toNat - 48) = n
        rw [dg_toNat]; omega
      · show (dg n).toNat ≠ 48
        rw [dg_toNat]; omega
    · match f, hf with
      | 0, hf => omega
      | f + 1, hf =>
        obtain ⟨i1, i2, i3, i4⟩ := digL_all f (n / 10) (by omega)
        rw [digL_big h]
        refine ⟨by rw [List.all_append, i1]; simp [dg_dig], ?_, by simp, fun h1 => ?_⟩
        · rw [numL_app1, i2, dg_toNat]; omega
        · have := i4 (by omega)
          cases hd : digL (n / 10) with
          | nil => exact absurd hd i3
          | cons a b => rw [hd] at this; exact this
theorem digL_len : ∀ (f n : Nat), n < 10 ^ f → (digL n).length ≤ f + 1
  | 0, n, h => by rw [digL_small (by omega)]; simp
  | f + 1, n, h => by
    by_cases hn : n < 10
    · rw [digL_small hn]; simp
    · have := digL_len f (n / 10) (by rw [Nat.pow_succ] at h; omega)
      rw [digL_big hn, List.length_append]; simp; omega

/-! ### What Lex tells of them -/
theorem rowL_stop_at {p : Nat → Bool} {a : By} {r : By} (ha : a.all (fun c => p c.toNat) = true) (hr : ∀ b t, r = b :: t → p b.toNat = false) : rowL p (a ++ r) = a := by
  induction a with
  | nil =>
    cases r with
    | nil => rfl
    | cons b t => rw [List.nil_append, rowL_no (by rw [hr b t rfl]; simp)]
  | cons c t ih =>
    rw [List.all_cons, Bool.and_eq_true] at ha
    rw [List.cons_append, rowL_yes ha.1, ih ha.2]
/-- A row of digits d, with r behind it that begins with none. -/
theorem lexL_digits (d r : By) (i : Nat) (hd : d.all (fun c => digN c.toNat) = true) (h0 : d ≠ []) (hr : ∀ b t, r = b :: t → digN b.toNat = false) :
    lexL (d ++ r) i = if (1 < d.length ∧ (d.headD 0).toNat = 48) ∨ 2147483647 < numL d then .bad i else (lexL r (i + d.length)).pre [⟨3, i, [], numL d⟩] := by
  cases hdd : d with
  | nil => exact absurd hdd h0
  | cons c t =>
    have hc : digN c.toNat = true := by rw [hdd, List.all_cons, Bool.and_eq_true] at hd; exact hd.1
    have hc2 : 48 ≤ c.toNat ∧ c.toNat ≤ 57 := by simpa [digN] using hc
    have hrow : rowL digN (c :: (t ++ r)) = c :: t := by rw [← List.cons_append, ← hdd]; exact rowL_stop_at hd hr
    have hb : blaN c.toNat = false := by simp [blaN]; omega
    have hl : letN c.toNat = false := by simp [letN, lowN, uppN]; omega
    have hnd : ¬ (c.toNat = 45 ∧ (t ++ r).head? = some 45) := fun h => by omega
    have ht : tokL (c :: (t ++ r)) = if (1 < (c :: t).length ∧ c.toNat = 48) ∨ 2147483647 < numL (c :: t) then none else some ⟨3, [], numL (c :: t), (c :: t).length⟩ := by
      rw [tokL_cons, if_neg (by rw [hl]; simp), if_pos hc, hrow]
    rw [List.cons_append]
    show _ = if (1 < (c :: t).length ∧ c.toNat = 48) ∨ 2147483647 < numL (c :: t) then _ else _
    by_cases hq : (1 < (c :: t).length ∧ c.toNat = 48) ∨ 2147483647 < numL (c :: t)
    · rw [if_pos hq] at ht ⊢
      exact lexL_bad i hb hnd ht
    · rw [if_neg hq] at ht ⊢
      rw [lexL_tok i hb hnd ht, ← List.cons_append]
      show (lexL ((c :: t ++ r).drop (c :: t).length) _).pre _ = _
      rw [List.drop_append, List.drop_length, Nat.sub_self, List.drop_zero, List.nil_append]
      rfl
theorem lex_num (k : Nat) (hk : k ≤ 2147483647) : lexL (32 :: digL k ++ [32]) 0 = .ok [⟨3, 1, [], k⟩] := by
  obtain ⟨i1, i2, i3, i4⟩ := digL_all k k (Nat.le_refl _)
  rw [List.cons_append, lexL_bl _ _ rfl, lexL_digits (digL k) [32] 1 i1 i3 (by intro b t h; simp at h; obtain ⟨rfl, rfl⟩ := h; rfl), i2, if_neg]
  · rfl
  · rintro (⟨h1, h2⟩ | h)
    · by_cases h0 : 1 ≤ k
      · exact i4 h0 h2
      · have : k = 0 := by omega
        subst this
        rw [digL_small (by omega)] at h1
        simp at h1
    · omega
/-- 'x', a blank, and a row of digits that is no number. -/
theorem lex_xbad (d : By) (hd : d.all (fun c => digN c.toNat) = true) (h0 : d ≠ []) (hb : (1 < d.length ∧ (d.headD 0).toNat = 48) ∨ 2147483647 < numL d) : lexL (120 :: 32 :: d) 0 = .bad 2 := by
  have ht : tokL (120 :: 32 :: d) = some ⟨1, [120], 0, 1⟩ := by
    have e : rowL resN (120 :: 32 :: d) = [120] := by
      rw [rowL_yes (by rfl), rowL_no (by decide)]
    rw [tokL_cons, if_pos (by rfl), e, if_neg (by decide)]
    rfl
  rw [lexL_tok 0 (by rfl) (by simp) ht]
  show (lexL (32 :: d) 1).pre _ = _
  rw [lexL_bl _ _ rfl]
  have := lexL_digits d [] 2 hd h0 (by intro b t h; cases h)
  rw [List.append_nil, if_pos hb] at this
  rw [this]; rfl
def ninesL : By := [57, 57, 57, 57, 57, 57, 57, 57, 57, 57, 57]
theorem fold_mul (b : By) : ∀ n : Nat, n * 10 ^ b.length ≤ b.foldl stepN n := by
  induction b with
  | nil => intro n; simp
  | cons c r ih =>
    intro n
    have := ih (stepN n c)
    rw [List.foldl_cons, List.length_cons, Nat.pow_succ]
    refine Nat.le_trans ?_ this
    unfold stepN
    rw [Nat.add_mul, show n * (10 ^ r.length * 10) = n * 10 * 10 ^ r.length by rw [Nat.mul_comm (10 ^ r.length) 10, Nat.mul_assoc]]
    omega
theorem nines_big (k : Nat) (hk : 1 ≤ k) : 2147483647 < numL (digL k ++ ninesL) := by
  obtain ⟨i1, i2, i3, i4⟩ := digL_all k k (Nat.le_refl _)
  have h : numL (digL k ++ ninesL) = ninesL.foldl stepN (numL (digL k)) := by
    show List.foldl stepN 0 _ = List.foldl stepN (List.foldl stepN 0 _) _
    rw [List.foldl_append]
  rw [h, i2]
  have := fold_mul ninesL k
  have h2 : k * 10 ^ ninesL.length = k * 100000000000 := rfl
  omega

end Go.Proofs.Ytdhkcbkeehameaa
