/- Mathematics of lexing: tokens stand one behind the other, and what is between is nothing. No program. -/
import Derived.Test.YtdhkcbkeehameaaLexM
import Derived.Test.YtdhkcbkeehameaaLexnm
namespace Go.Proofs.Ytdhkcbkeehameaa
set_option linter.unusedVariables false
set_option linter.unusedSimpArgs false

abbrev Dc (s : ByteArray) (k : Nat) : By := s.data.toList.drop k
theorem rowL_splitc (p : Nat → Bool) : ∀ (l : By) (b : UInt8) (r : By), l.drop (rowL p l).length = b :: r → p b.toNat = false
  | [], b, r, h => by simp at h
  | c :: t, b, r, h => by
    by_cases hc : p c.toNat = true
    · rw [rowL_yes hc, List.length_cons, List.drop_succ_cons] at h
      exact rowL_splitc p t b r h
    · rw [rowL_no hc] at h
      simp at h
      obtain ⟨rfl, rfl⟩ := h
      simpa using hc
theorem row_endc (p : Nat → Bool) (s : ByteArray) (k e : Nat) (he : k + (rowL p (Dc s k)).length = e) (h : e < s.size) : p s[e].toNat = false := by
  refine rowL_splitc p (Dc s k) s[e] (Dc s (e + 1)) ?_
  unfold Dc at *
  rw [List.drop_drop, he]
  exact drop_at s e h
theorem row_inc (p : Nat → Bool) (s : ByteArray) (k q : Nat) (hk : k ≤ q) (hq : q < k + (rowL p (Dc s k)).length) (h : q < s.size) : p s[q].toNat = true := by
  have h1 := List.all_eq_true.1 (rowL_all_p p (Dc s k))
  have h2 : q - k < (rowL p (Dc s k)).length := by omega
  have h3 : (rowL p (Dc s k))[q - k]'h2 = s[q] := by
    have e1 : (rowL p (Dc s k))[q - k]? = some s[q] := by
      rw [rowL_take p (Dc s k), List.getElem?_take, if_pos h2]
      unfold Dc
      rw [List.getElem?_drop, show k + (q - k) = q by omega]
      have := drop_at s q h
      have h4 : (s.data.toList.drop q)[0]? = some s[q] := by rw [this]; rfl
      rwa [List.getElem?_drop, Nat.add_zero] at h4
    rw [List.getElem?_eq_getElem h2] at e1
    exact Option.some.inj e1
  rw [← h3]
  exact h1 _ (List.getElem_mem h2)

def Cov (l : By) (i : Nat) : List Tk → Prop
  | [] => lexL l 0 = .ok []
  | t :: r => ∃ (k : Nat) (tw : Tw), tokL (l.drop k) = some tw ∧ t = tw.at (i + k) ∧ k < l.length ∧ lexL (l.take k) 0 = .ok [] ∧ Cov (l.drop (k + tw.w)) (i + (k + tw.w)) r

theorem take_pre {α : Type} (p l : List α) (k : Nat) : (p ++ l).take (p.length + k) = p ++ l.take k := by
  rw [List.take_append]; simp [List.take_of_length_le]
theorem drop_pre {α : Type} (p l : List α) (k : Nat) : (p ++ l).drop (p.length + k) = l.drop k := by
  rw [List.drop_append]; simp [List.drop_of_length_le]
theorem cov_lift (p l : By) (i : Nat) (ts : List Tk) (h0 : ∀ k j, lexL (p ++ l.take k) j = lexL (l.take k) (j + p.length)) (h : Cov l (i + p.length) ts) : Cov (p ++ l) i ts := by
  cases ts with
  | nil =>
    show lexL (p ++ l) 0 = .ok []
    have h1 := h0 l.length 0
    rw [List.take_length] at h1
    rw [h1]
    exact lexL_none _ h
  | cons t r =>
    obtain ⟨k, tw, h1, h2, h3, h4, h5⟩ := h
    refine ⟨p.length + k, tw, by rw [drop_pre]; exact h1, by rw [h2]; congr 1; omega, by rw [List.length_append]; omega, ?_, ?_⟩
    · rw [take_pre, h0 k 0]
      exact lexL_none _ h4
    · rw [show p.length + k + tw.w = p.length + (k + tw.w) by omega, drop_pre, show i + (p.length + (k + tw.w)) = i + p.length + (k + tw.w) by omega]
      exact h5

theorem cov_of : ∀ (n : Nat) (l : By) (i : Nat) (ts : List Tk), l.length ≤ n → lexL l i = .ok ts → Cov l i ts
  | n, [], i, ts, _, h => by
    obtain rfl := Lx.ok_inj h
    rfl
  | 0, b :: t, i, ts, h, _ => by simp at h
  | n + 1, b :: r, i, ts, hn, h => by
    simp only [List.length_cons] at hn
    cases hb : blaN b.toNat
    · by_cases hr : b.toNat = 45 ∧ r.head? = some 45
      · obtain ⟨m, hm⟩ : ∃ m, (rowL noNl r).length = m := ⟨_, rfl⟩
        have hmle : m ≤ r.length := by rw [← hm]; exact rowL_le _ _
        have hrow : rowL noNl r = r.take m := by rw [← hm]; exact rowL_take _ _
        rw [lexL_rem i hr.1 hr.2, hm] at h
        have ih := cov_of n (r.drop m) (i + 1 + m) ts (by rw [List.length_drop]; omega) h
        have hsplit : b :: r = (b :: r.take m) ++ r.drop m := by rw [List.cons_append, List.take_append_drop]
        have hpl : (b :: r.take m).length = 1 + m := by rw [List.length_cons, List.length_take]; omega
        rw [hsplit]
        refine cov_lift _ _ i ts (fun k j => ?_) (by rw [hpl, ← Nat.add_assoc]; exact ih)
        have hall : (r.take m).all (fun c => noNl c.toNat) = true := by rw [← hrow]; exact rowL_all_p _ _
        have hstop : ∀ c t, (r.drop m).take k = c :: t → noNl c.toNat = false := fun c t hc => by
          cases hd : r.drop m with
          | nil => rw [hd] at hc; simp at hc
          | cons x y =>
            have hx := rowL_splitc noNl r x y (by rw [hm]; exact hd)
            rw [hd] at hc
            cases k with
            | zero => simp at hc
            | succ k => simp at hc; obtain ⟨rfl, _⟩ := hc; exact hx
        have hrow2 := rowL_stop_at (p := noNl) (a := r.take m) (r := (r.drop m).take k) hall hstop
        have hhead : (r.take m ++ (r.drop m).take k).head? = some 45 := by
          cases hrr : r with
          | nil => rw [hrr] at hr; cases hr.2
          | cons x y =>
            rw [hrr] at hr
            have hx : x = 45 := Option.some.inj hr.2
            have hm1 : 1 ≤ m := by
              rw [← hm, hrr, rowL_yes (by rw [hx]; rfl)]; simp
            obtain ⟨m', rfl⟩ : ∃ m', m = m' + 1 := ⟨m - 1, by omega⟩
            rw [hx]; rfl
        rw [List.cons_append, lexL_rem j hr.1 hhead, hrow2, hpl]
        have hlt : (r.take m).length = m := by rw [List.length_take]; omega
        rw [hlt, show (r.take m ++ (r.drop m).take k).drop m = (r.drop m).take k by
          have := drop_pre (r.take m) ((r.drop m).take k) 0
          rw [hlt, Nat.add_zero, List.drop_zero] at this; exact this, ← Nat.add_assoc]
      · cases hk : tokL (b :: r) with
        | none => rw [lexL_bad i hb hr hk] at h; exact (Lx.bad_ok h).elim
        | some x =>
          have hp := tokL_pos hk
          rw [lexL_tok i hb hr hk] at h
          obtain ⟨l', h1, rfl⟩ : ∃ l', lexL ((b :: r).drop x.w) (i + x.w) = .ok l' ∧ ts = [x.at i] ++ l' := by
            rcases Lx.cases (lexL ((b :: r).drop x.w) (i + x.w)) with ⟨q, hq⟩ | ⟨l', hq⟩
            · rw [hq] at h; exact (Lx.bad_ok h).elim
            · rw [hq] at h; exact ⟨l', hq, (Lx.ok_inj h).symm⟩
          have ih := cov_of n ((b :: r).drop x.w) (i + x.w) l' (by simp only [List.length_drop, List.length_cons]; omega) h1
          exact ⟨0, x, hk, rfl, by simp, rfl, by rw [Nat.zero_add]; exact ih⟩
    · rw [lexL_blank i hb] at h
      have ih := cov_of n r (i + 1) ts (by omega) h
      exact cov_lift [b] r i ts (fun k j => lexL_blank j hb) ih
theorem cov_lex {l : By} {ts : List Tk} (h : lexL l 0 = .ok ts) : Cov l 0 ts := cov_of l.length l 0 ts (Nat.le_refl _) h

theorem tokL_shape {l : By} {t : Tw} (h : tokL l = some t) : (t.s.length = t.w ∧ t.s = l.take t.w) ∨ (t.s = [] ∧ t.w = (rowL digN l).length) := by
  cases l with
  | nil => cases h
  | cons b r =>
    rw [tokL_cons] at h
    split at h
    · split at h
      · cases h
      · cases h; exact .inl ⟨rfl, rowL_take _ _⟩
    · split at h
      · split at h
        · cases h
        · cases h; exact .inr ⟨rfl, rfl⟩
      · split at h
        · cases h; exact .inl ⟨rfl, rfl⟩
        · split at h
          · rename_i hh
            cases h
            cases r with
            | nil => cases hh.2
            | cons x y =>
              have h1 : b = 45 := UInt8.toNat_inj.1 hh.1
              have h2 : x = 62 := Option.some.inj hh.2
              subst h1; subst h2
              exact .inl ⟨rfl, rfl⟩
          · cases h

end Go.Proofs.Ytdhkcbkeehameaa
