/- The mathematics of types' texts (layer 17): how long they are, that their brackets are closed, that two types have one text just where they are one. No program. -/
import Derived.Test.YtpfcpeljfgmjgaaDoorKmb
namespace Go.Proofs.YtpfcpeljfgmjgaaDoor
set_option linter.unusedVariables false
set_option linter.unusedSimpArgs false

/-! ### How long -/
theorem decDigits_le : ∀ (k u : Nat), u < 10 ^ (k + 1) → (Go.Lib.decDigits u).length ≤ k + 1
  | 0, u, h => by
    rw [Go.Lib.decDigits, dif_pos (by omega)]; simp
  | k + 1, u, h => by
    rw [Go.Lib.decDigits]
    split
    · simp
    · have := decDigits_le k (u / 10) (by rw [Nat.pow_succ] at h; omega)
      simp; omega
theorem varTx_len {n : Int} (h : n ≤ 2147483647) : (varTx n).length ≤ 20 := by
  unfold varTx
  split
  · have := decDigits_le 9 (n.toNat / 26) (by omega)
    simp; omega
  · simp
theorem joinC_len : ∀ l : List By, (joinC l).length ≤ (l.map List.length).sum + 2 * l.length
  | [] => by simp [joinC]
  | [x] => by simp [joinC]
  | x :: y :: r => by
    have := joinC_len (y :: r)
    simp only [joinC, List.length_append, List.map_cons, List.sum_cons, List.length_cons, List.length_nil] at this ⊢
    omega
theorem held_len (b : Bool) (x : By) : (held b x).length ≤ x.length + 2 := by unfold held; split <;> simp
theorem zip_len : ∀ (l : List Ty) (m : List By), ((l.zip m).flatMap (fun p => 32 :: held (isHeld p.1) p.2)).length ≤ (m.map List.length).sum + 3 * m.length
  | [], m => by simp
  | x :: r, [] => by simp
  | x :: r, y :: m => by
    have h1 := zip_len r m
    have h2 := held_len (isHeld x) y
    simp only [List.zip_cons_cons, List.flatMap_cons, List.length_append, List.length_cons, List.map_cons, List.sum_cons] at h1 ⊢
    omega
theorem textL_len : ∀ (d : Nat) (t : Ty), mayL d t = true → (textL t).length ≤ 120 * t.nn
  | 0, t, h => by simp [mayL] at h
  | d + 1, .mk k n s kids, h => by
    simp only [mayL, Bool.and_eq_true, List.all_eq_true] at h
    obtain ⟨h1, h2⟩ := h
    have hs : ((textsL kids).map List.length).sum ≤ 120 * Ty.nns kids := by
      clear h1
      induction kids with
      | nil => simp [textsL]
      | cons x r ih =>
        simp only [textsL, Ty.nns, List.map_cons, List.sum_cons]
        have h3 := textL_len d x (h2 x (by simp))
        have h4 := ih (fun y hy => h2 y (by simp [hy]))
        omega
    have hl : (textsL kids).length = kids.length := by rw [textsL_eq]; simp
    simp only [textL, Ty.nn]
    unfold headMay at h1
    unfold combT
    split at h1
    · rename_i hk
      rw [if_pos hk]
      simp only [Bool.and_eq_true, decide_eq_true_eq] at h1
      have := varTx_len h1.1.1.2
      omega
    · rename_i hk
      rw [if_neg hk]
      split at h1
      · simp only [Bool.and_eq_true] at h1
        obtain ⟨_, h1⟩ := h1
        split at h1
        · rename_i hq
          rw [if_pos hq]
          split
          · rename_i a ra x y ry e1
            have := held_len (isArr a) x
            rw [e1] at hs
            simp only [List.map_cons, List.sum_cons, List.length_append, List.length_cons, List.length_nil] at hs ⊢
            omega
          · simp
        · rename_i hq
          rw [if_neg hq]
          split at h1
          · rename_i hc
            rw [if_pos hc]
            simp only [Bool.and_eq_true, decide_eq_true_eq] at h1
            have := joinC_len (textsL kids)
            simp only [List.length_cons, List.length_append, List.length_nil]
            omega
          · rename_i hc
            rw [if_neg hc]
            simp only [Bool.and_eq_true, decide_eq_true_eq] at h1
            have h5 := zip_len kids (textsL kids)
            have h6 : s.length ≤ 30 := by
              have h7 := h1.1
              unfold conN rowB at h7
              simp only [Bool.and_eq_true, decide_eq_true_eq] at h7
              exact h7.1.1.2
            rw [List.length_append]
            omega
      · cases h1

/-! ### Brackets -/
def Bal (s : By) : Prop := s.count 40 = s.count 41 ∧ ∀ n, (s.take n).count 41 ≤ (s.take n).count 40
theorem Bal.app {s t : By} (h : Bal s) (k : Bal t) : Bal (s ++ t) := by
  refine ⟨by rw [List.count_append, List.count_append, h.1, k.1], fun n => ?_⟩
  rw [List.take_append, List.count_append, List.count_append]
  have := h.2 n; have := k.2 (n - s.length); omega
theorem Bal.plain {s : By} (h : ∀ c ∈ s, c ≠ 40 ∧ c ≠ 41) : Bal s := by
  have h0 : ∀ t : By, (∀ c ∈ t, c ≠ 40 ∧ c ≠ 41) → t.count 40 = 0 ∧ t.count 41 = 0 := fun t ht =>
    ⟨List.count_eq_zero.2 fun hm => (ht _ hm).1 rfl, List.count_eq_zero.2 fun hm => (ht _ hm).2 rfl⟩
  refine ⟨by rw [(h0 s h).1, (h0 s h).2], fun n => ?_⟩
  have := h0 (s.take n) fun c hc => h c (List.mem_of_mem_take hc)
  omega
theorem Bal.wrap {s : By} (h : Bal s) : Bal (40 :: (s ++ [41])) := by
  refine ⟨?_, fun n => ?_⟩
  · have := h.1
    simp [List.count_cons, List.count_append]; omega
  · cases n with
    | zero => simp
    | succ n =>
      rw [List.take_succ_cons, List.count_cons, List.count_cons, List.take_append, List.count_append, List.count_append]
      have h1 := h.2 n
      have h2 : (([41] : By).take (n - s.length)).count 41 ≤ 1 := by
        cases (n - s.length) <;> simp
      have h3 : (([41] : By).take (n - s.length)).count 40 = 0 := by
        cases (n - s.length) <;> simp
      simp; omega
theorem Bal.held {s : By} (h : Bal s) (b : Bool) : Bal (held b s) := by
  unfold Go.Proofs.YtpfcpeljfgmjgaaDoor.held; split
  · exact h.wrap
  · exact h
theorem varTx_small : ∀ n, n < 60 → (∀ c ∈ varTx ((n : Nat) : Int), c ≠ 40 ∧ c ≠ 41) ∧ (∃ c, varTx ((n : Nat) : Int) = [c] ∧ 97 ≤ c.toNat) ∨ (∀ c ∈ varTx ((n : Nat) : Int), c ≠ 40 ∧ c ≠ 41) ∧ ∃ c d, varTx ((n : Nat) : Int) = [c, d] ∧ 97 ≤ c.toNat ∧ (d = 49 ∨ d = 50) := by
  intro n hn
  have hc : (UInt8.ofNat (97 + n % 26)).toNat = 97 + n % 26 := by
    rw [UInt8.toNat_ofNat']; omega
  have hne : UInt8.ofNat (97 + n % 26) ≠ 40 ∧ UInt8.ofNat (97 + n % 26) ≠ 41 := by
    constructor <;> (intro e; rw [e] at hc; simp at hc; omega)
  by_cases h : n < 26
  · left
    have e : varTx ((n : Nat) : Int) = [UInt8.ofNat (97 + n % 26)] := by unfold varTx; rw [if_neg (by omega)]; rfl
    rw [e]
    exact ⟨fun c hm => by rw [List.mem_singleton] at hm; subst hm; exact hne, _, rfl, by omega⟩
  · right
    have e : varTx ((n : Nat) : Int) = [UInt8.ofNat (97 + n % 26), UInt8.ofNat (48 + n / 26)] := by
      unfold varTx; rw [if_pos (by omega), Go.Lib.decDigits, dif_pos (by simp; omega)]; simp
    rw [e]
    have hd : n / 26 = 1 ∨ n / 26 = 2 := by omega
    refine ⟨fun c hm => ?_, _, _, rfl, by omega, ?_⟩
    · rw [List.mem_cons, List.mem_singleton] at hm
      rcases hm with rfl | rfl
      · exact hne
      · rcases hd with hd | hd <;> rw [hd] <;> decide
    · rcases hd with hd | hd <;> rw [hd] <;> decide
theorem varTx_inj : ∀ n, n < 60 → ∀ m, m < 60 → varTx ((n : Nat) : Int) = varTx ((m : Nat) : Int) → n = m := by
  intro n hn m hm h
  have hf : ∀ k : Nat, k < 60 → varTx ((k : Nat) : Int) = UInt8.ofNat (97 + k % 26) :: (if 26 ≤ k then [UInt8.ofNat (48 + k / 26)] else []) := fun k hk => by
    unfold varTx
    by_cases h : 26 ≤ k
    · rw [if_pos (by omega), if_pos h, Go.Lib.decDigits, dif_pos (by simp; omega)]; simp
    · rw [if_neg (by omega), if_neg h]; rfl
  have ht : ∀ k : Nat, k < 200 → (UInt8.ofNat k).toNat = k := fun k hk => by rw [UInt8.toNat_ofNat']; omega
  rw [hf n hn, hf m hm, List.cons.injEq] at h
  have h1 := congrArg UInt8.toNat h.1
  rw [ht _ (by omega), ht _ (by omega)] at h1
  have h2 := h.2
  by_cases hn2 : 26 ≤ n <;> by_cases hm2 : 26 ≤ m
  · rw [if_pos hn2, if_pos hm2, List.cons.injEq] at h2
    have h3 := congrArg UInt8.toNat h2.1
    rw [ht _ (by omega), ht _ (by omega)] at h3
    omega
  · rw [if_pos hn2, if_neg hm2] at h2; cases h2
  · rw [if_neg hn2, if_pos hm2] at h2; cases h2
  · omega

/-! ### The texts of such types -/
theorem tx_vr (n : Int) : textL (vrT n) = varTx n := rfl
theorem tx_cn {s : By} (h1 : s ≠ tArrow) (h2 : s ≠ tComma) : textL (cnT s) = s := by
  simp [cnT, textL, textsL, combT, h1, h2]
theorem tx_int : textL (cnT nInt) = nInt := tx_cn (by decide) (by decide)
theorem tx_bool : textL (cnT nBool) = nBool := tx_cn (by decide) (by decide)
theorem tx_ar (a b : Ty) : textL (arT a b) = held (isArr a) (textL a) ++ ([32, 45, 62, 32] ++ textL b) := by
  simp [arT, textL, textsL, combT]
theorem tx_pa (a b : Ty) : textL (paT a b) = 40 :: (textL a ++ (44 :: 32 :: (textL b ++ [41]))) := by
  simp [paT, textL, textsL, combT, joinC, tComma, tArrow]
theorem tx_li (a : Ty) : textL (liT a) = nList ++ (32 :: held (isHeld a) (textL a)) := by
  have h1 : nList ≠ tArrow := by decide
  have h2 : nList ≠ tComma := by decide
  simp [liT, textL, textsL, combT, h1, h2]
theorem MkT.bal {v : Nat} (hv : v ≤ 60) {t : Ty} (k : MkT v t) : Bal (textL t) := by
  induction k with
  | vr n hn =>
    rw [tx_vr]
    rcases varTx_small n (by omega) with ⟨h, _⟩ | ⟨h, _⟩ <;> exact .plain h
  | int => rw [tx_int]; exact .plain (by decide)
  | bool => rw [tx_bool]; exact .plain (by decide)
  | ar _ _ a b => rw [tx_ar]; exact (a.held _).app ((Bal.plain (by decide)).app b)
  | @pa x y _ _ a b =>
    rw [tx_pa]
    have h := (a.app ((Bal.plain (s := [44, 32]) (by decide)).app b)).wrap
    simpa using h
  | @li x _ a =>
    rw [tx_li]
    have h := (Bal.plain (s := nList ++ [32]) (by decide)).app (a.held (isHeld x))
    simpa using h

/-! ### One text, one type -/
/-- What may stand behind: nothing, or a blank, a bracket, a comma. -/
def stp (r : By) : Prop := ∀ c, r.head? = some c → c = 32 ∨ c = 41 ∨ c = 44
/-- What may stand behind a whole type. -/
def stpT (r : By) : Prop := ∀ c, r.head? = some c → c = 41 ∨ c = 44
theorem stpT.stp {r : By} (h : stpT r) : stp r := fun c hc => .inr (h c hc)
theorem stp_cons {c : UInt8} {r : By} (h : c = 32 ∨ c = 41 ∨ c = 44) : stp (c :: r) := fun d hd => by simp at hd; subst hd; exact h
theorem stpT_cons {c : UInt8} {r : By} (h : c = 41 ∨ c = 44) : stpT (c :: r) := fun d hd => by simp at hd; subst hd; exact h
def InjC (t u : Ty) : Prop := ∀ r r' : By, textL t ++ r = textL u ++ r' → stpT r → stpT r' → t = u ∧ r = r'
def InjB (t u : Ty) : Prop := ∀ r r' : By, held (isArr t) (textL t) ++ r = held (isArr u) (textL u) ++ r' → stp r → stp r' → t = u ∧ r = r'
def InjA (t u : Ty) : Prop := ∀ r r' : By, held (isHeld t) (textL t) ++ r = held (isHeld u) (textL u) ++ r' → stp r → stp r' → t = u ∧ r = r'
theorem varTx_app {n m : Nat} (hn : n < 60) (hm : m < 60) {r r' : By} (h : varTx (n : Int) ++ r = varTx (m : Int) ++ r') (hr : stp r) (hr' : stp r') : n = m ∧ r = r' := by
  have key : ∀ (c c' d : UInt8) (r r' : By), stp r → (d = 49 ∨ d = 50) → [c] ++ r ≠ [c', d] ++ r' := by
    intro c c' d r r' hr hd e
    simp at e
    have := hr d (by rw [e.2]; rfl)
    rcases hd with rfl | rfl <;> simp at this
  rcases varTx_small n hn with ⟨_, c, e, _⟩ | ⟨_, c, d, e, _, hd⟩ <;> rcases varTx_small m hm with ⟨_, c', e', _⟩ | ⟨_, c', d', e', _, hd'⟩
  · have h2 : varTx (n : Int) = varTx (m : Int) ∧ r = r' := by
      rw [e, e'] at h ⊢; simpa using h
    exact ⟨varTx_inj n hn m hm h2.1, h2.2⟩
  · rw [e, e'] at h; exact absurd h (key c c' d' r r' hr hd')
  · rw [e, e'] at h; exact absurd h.symm (key c' c d r' r hr' hd)
  · have h2 : varTx (n : Int) = varTx (m : Int) ∧ r = r' := by
      rw [e, e'] at h ⊢; simpa [and_assoc] using h
    exact ⟨varTx_inj n hn m hm h2.1, h2.2⟩
theorem varTx_head {n : Nat} (hn : n < 60) {r : By} {c : UInt8} {s : By} (hc : c.toNat < 97) (h : varTx (n : Int) ++ r = c :: s) : False := by
  rcases varTx_small n hn with ⟨_, d, e, hd⟩ | ⟨_, d, _, e, hd, _⟩ <;> (rw [e] at h; simp at h; rw [h.1] at hd; omega)
/-- What is no function begins by its own first sign. -/
theorem inj_plain {v : Nat} (hv : v ≤ 60) {t u : Ty} (k : MkT v t) (q : MkT v u) (ht : isArr t = false) (hu : isArr u = false)
    (ih : ∀ a b, MkT v a → MkT v b → a.nn + b.nn < t.nn + u.nn → InjA a b ∧ InjC a b) : ∀ r r' : By, textL t ++ r = textL u ++ r' → stp r → stp r' → t = u ∧ r = r' := by
  intro r r' h hr hr'
  cases k with
  | vr n hn =>
    rw [tx_vr] at h
    cases q with
    | vr m hm =>
      rw [tx_vr] at h
      obtain ⟨rfl, e⟩ := varTx_app (by omega) (by omega) h hr hr'
      exact ⟨rfl, e⟩
    | int => rw [tx_int] at h; exact (varTx_head (by omega) (c := 73) (by decide) h).elim
    | bool => rw [tx_bool] at h; exact (varTx_head (by omega) (c := 66) (by decide) h).elim
    | ar => cases hu
    | pa => rw [tx_pa] at h; exact (varTx_head (by omega) (c := 40) (by decide) h).elim
    | li => rw [tx_li] at h; exact (varTx_head (by omega) (c := 76) (by decide) h).elim
  | int =>
    rw [tx_int] at h
    cases q with
    | vr m hm => rw [tx_vr] at h; exact (varTx_head (by omega) (c := 73) (by decide) h.symm).elim
    | int => rw [tx_int] at h; exact ⟨rfl, List.append_cancel_left h⟩
    | bool => rw [tx_bool] at h; simp [nInt, nBool] at h
    | ar => cases hu
    | pa => rw [tx_pa] at h; simp [nInt] at h
    | li => rw [tx_li] at h; simp [nInt, nList] at h
  | bool =>
    rw [tx_bool] at h
    cases q with
    | vr m hm => rw [tx_vr] at h; exact (varTx_head (by omega) (c := 66) (by decide) h.symm).elim
    | int => rw [tx_int] at h; simp [nInt, nBool] at h
    | bool => rw [tx_bool] at h; exact ⟨rfl, List.append_cancel_left h⟩
    | ar => cases hu
    | pa => rw [tx_pa] at h; simp [nBool] at h
    | li => rw [tx_li] at h; simp [nBool, nList] at h
  | ar => cases ht
  | @pa a b ka kb =>
    rw [tx_pa] at h
    cases q with
    | vr m hm => rw [tx_vr] at h; exact (varTx_head (by omega) (c := 40) (by decide) h.symm).elim
    | int => rw [tx_int] at h; simp [nInt] at h
    | bool => rw [tx_bool] at h; simp [nBool] at h
    | ar => cases hu
    | @pa a' b' ka' kb' =>
      rw [tx_pa] at h
      simp only [List.cons_append, List.append_assoc, List.cons.injEq, true_and] at h
      obtain ⟨rfl, h3⟩ := (ih a a' ka ka' (by simp only [paT, Ty.nn, Ty.nns]; omega)).2 _ _ h (stpT_cons (.inr rfl)) (stpT_cons (.inr rfl))
      simp only [List.cons.injEq, true_and, List.append_assoc, List.cons_append, List.nil_append] at h3
      obtain ⟨rfl, h4⟩ := (ih b b' kb kb' (by simp only [paT, Ty.nn, Ty.nns]; omega)).2 _ _ h3 (stpT_cons (.inl rfl)) (stpT_cons (.inl rfl))
      simp at h4
      exact ⟨rfl, h4⟩
    | li => rw [tx_li] at h; simp [nList] at h
  | @li a ka =>
    rw [tx_li] at h
    cases q with
    | vr m hm => rw [tx_vr] at h; exact (varTx_head (by omega) (c := 76) (by decide) h.symm).elim
    | int => rw [tx_int] at h; simp [nInt, nList] at h
    | bool => rw [tx_bool] at h; simp [nBool, nList] at h
    | ar => cases hu
    | pa => rw [tx_pa] at h; simp [nList] at h
    | @li a' ka' =>
      rw [tx_li] at h
      simp only [List.append_assoc, List.cons_append] at h
      have h2 := List.append_cancel_left h
      simp only [List.cons.injEq, true_and] at h2
      obtain ⟨rfl, e⟩ := (ih a a' ka ka' (by simp only [liT, Ty.nn, Ty.nns]; omega)).1 _ _ h2 hr hr'
      exact ⟨rfl, e⟩
theorem MkT.arr {v : Nat} {t : Ty} (k : MkT v t) (h : isArr t = true) : ∃ a b, t = arT a b ∧ MkT v a ∧ MkT v b := by
  cases k with
  | ar ka kb => exact ⟨_, _, rfl, ka, kb⟩
  | _ => cases h
/-- What begins with a bracket and is none itself is a pair. -/
theorem MkT.open {v : Nat} (hv : v ≤ 60) {u : Ty} (q : MkT v u) (hu : isArr u = false) {r s : By} (h : 40 :: s = textL u ++ r) : ∃ a b, u = paT a b ∧ MkT v a ∧ MkT v b := by
  cases q with
  | vr m hm => rw [tx_vr] at h; exact (varTx_head (by omega) (c := 40) (by decide) h.symm).elim
  | int => rw [tx_int] at h; simp [nInt] at h
  | bool => rw [tx_bool] at h; simp [nBool] at h
  | ar => cases hu
  | pa ka kb => exact ⟨_, _, rfl, ka, kb⟩
  | li => rw [tx_li] at h; simp [nList] at h
theorem held_false (x : By) : held false x = x := rfl
theorem held_true (x : By) : held true x = 40 :: (x ++ [41]) := rfl
theorem isHeld_arr {v : Nat} {t : Ty} (k : MkT v t) : isHeld t = true ↔ isArr t = true ∨ ∃ a, t = liT a := by
  cases k with
  | vr n hn => constructor
               · intro h; cases h
               · rintro (h | ⟨a, h⟩) <;> cases h
  | int => constructor
           · intro h; cases h
           · rintro (h | ⟨a, h⟩) <;> cases h
  | bool => constructor
            · intro h; cases h
            · rintro (h | ⟨a, h⟩) <;> cases h
  | ar => exact ⟨fun _ => .inl rfl, fun _ => rfl⟩
  | pa => constructor
          · intro h; cases h
          · rintro (h | ⟨a, h⟩) <;> cases h
  | li => exact ⟨fun _ => .inr ⟨_, rfl⟩, fun _ => rfl⟩
/-- In brackets against a pair: never. -/
theorem held_pa {v : Nat} {t a b : Ty} (ih : InjC t a) {r r' : By} (h : held true (textL t) ++ r = textL (paT a b) ++ r') : False := by
  rw [held_true, tx_pa] at h
  simp only [List.cons_append, List.append_assoc, List.cons.injEq, true_and] at h
  have := (ih _ _ h (stpT_cons (.inl rfl)) (stpT_cons (.inr rfl))).2
  simp at this
theorem held_both {t u : Ty} (ih : InjC t u) {r r' : By} (h : held true (textL t) ++ r = held true (textL u) ++ r') : t = u ∧ r = r' := by
  rw [held_true, held_true] at h
  simp only [List.cons_append, List.append_assoc, List.cons.injEq, true_and] at h
  obtain ⟨rfl, e⟩ := ih _ _ h (stpT_cons (.inl rfl)) (stpT_cons (.inl rfl))
  simp at e
  exact ⟨rfl, e⟩
theorem InjC.symm {t u : Ty} (h : InjC t u) : InjC u t := fun r r' e h1 h2 => by
  obtain ⟨a, b⟩ := h r' r e.symm h2 h1
  exact ⟨a.symm, b.symm⟩
theorem inj_all {v : Nat} (hv : v ≤ 60) : ∀ (d : Nat) (t u : Ty), t.nn + u.nn ≤ d → MkT v t → MkT v u → InjA t u ∧ InjB t u ∧ InjC t u
  | 0, t, u, h, _, _ => by have := t.nn_pos; omega
  | d + 1, t, u, h, k, q => by
    have ih : ∀ a b, MkT v a → MkT v b → a.nn + b.nn < t.nn + u.nn → InjA a b ∧ InjB a b ∧ InjC a b := fun a b ka kb hs => inj_all hv d a b (by omega) ka kb
    have hC : InjC t u := by
      intro r r' e hr hr'
      cases ht : isArr t with
      | false =>
        cases hu : isArr u with
        | false => exact inj_plain hv k q ht hu (fun a b ka kb hs => ⟨(ih a b ka kb hs).1, (ih a b ka kb hs).2.2⟩) r r' e hr.stp hr'.stp
        | true =>
          obtain ⟨a, b, rfl, ka, kb⟩ := q.arr hu
          rw [tx_ar, List.append_assoc] at e
          have hB := (ih t a k ka (by simp only [arT, Ty.nn, Ty.nns]; omega)).2.1
          have h2 := hB r ([32, 45, 62, 32] ++ textL b ++ r') (by rw [ht, held_false]; simpa using e) hr.stp (stp_cons (.inl rfl))
          have := hr 32 (by rw [h2.2]; rfl)
          simp at this
      | true =>
        obtain ⟨a, b, rfl, ka, kb⟩ := k.arr ht
        rw [tx_ar, List.append_assoc] at e
        cases hu : isArr u with
        | false =>
          have hB := (ih a u ka q (by simp only [arT, Ty.nn, Ty.nns]; omega)).2.1
          have h2 := hB ([32, 45, 62, 32] ++ textL b ++ r) r' (by rw [hu, held_false]; simpa using e) (stp_cons (.inl rfl)) hr'.stp
          have := hr' 32 (by rw [← h2.2]; rfl)
          simp at this
        | true =>
          obtain ⟨a', b', rfl, ka', kb'⟩ := q.arr hu
          rw [tx_ar, List.append_assoc] at e
          simp only [List.append_assoc] at e
          obtain ⟨rfl, h2⟩ := (ih a a' ka ka' (by simp only [arT, Ty.nn, Ty.nns]; omega)).2.1 _ _ e (stp_cons (.inl rfl)) (stp_cons (.inl rfl))
          simp only [List.append_assoc, List.cons_append, List.nil_append, List.cons.injEq, true_and] at h2
          obtain ⟨rfl, h3⟩ := (ih b b' kb kb' (by simp only [arT, Ty.nn, Ty.nns]; omega)).2.2 _ _ h2 hr hr'
          exact ⟨rfl, h3⟩
    have hP : isArr t = false → isArr u = false → ∀ r r' : By, textL t ++ r = textL u ++ r' → stp r → stp r' → t = u ∧ r = r' := fun ht hu => inj_plain hv k q ht hu (fun a b ka kb hs => ⟨(ih a b ka kb hs).1, (ih a b ka kb hs).2.2⟩)
    have hB : InjB t u := by
      intro r r' e hr hr'
      cases ht : isArr t with
      | false =>
        cases hu : isArr u with
        | false => rw [ht, hu] at e; exact hP ht hu r r' e hr hr'
        | true =>
          rw [ht, hu, held_false] at e
          obtain ⟨a, b, rfl, ka, kb⟩ := k.open hv ht (r := r) (by rw [e]; rfl)
          exact (held_pa (v := v) (ih u a q ka (by simp only [paT, Ty.nn, Ty.nns]; omega)).2.2 e.symm).elim
      | true =>
        cases hu : isArr u with
        | false =>
          rw [ht, hu, held_false] at e
          obtain ⟨a, b, rfl, ka, kb⟩ := q.open hv hu (r := r') (by rw [← e]; rfl)
          exact (held_pa (v := v) (ih t a k ka (by simp only [paT, Ty.nn, Ty.nns]; omega)).2.2 e).elim
        | true => rw [ht, hu] at e; exact held_both hC e
    refine ⟨?_, hB, hC⟩
    intro r r' e hr hr'
    cases ht : isHeld t with
    | false =>
      have ht2 : isArr t = false := by
        cases hx : isArr t with
        | false => rfl
        | true => rw [(isHeld_arr k).2 (.inl hx)] at ht; cases ht
      cases hu : isHeld u with
      | false =>
        have hu2 : isArr u = false := by
          cases hx : isArr u with
          | false => rfl
          | true => rw [(isHeld_arr q).2 (.inl hx)] at hu; cases hu
        rw [ht, hu] at e
        exact hP ht2 hu2 r r' e hr hr'
      | true =>
        rw [ht, hu, held_false] at e
        obtain ⟨a, b, rfl, ka, kb⟩ := k.open hv ht2 (r := r) (by rw [e]; rfl)
        exact (held_pa (v := v) (ih u a q ka (by simp only [paT, Ty.nn, Ty.nns]; omega)).2.2 e.symm).elim
    | true =>
      cases hu : isHeld u with
      | false =>
        have hu2 : isArr u = false := by
          cases hx : isArr u with
          | false => rfl
          | true => rw [(isHeld_arr q).2 (.inl hx)] at hu; cases hu
        rw [ht, hu, held_false] at e
        obtain ⟨a, b, rfl, ka, kb⟩ := q.open hv hu2 (r := r') (by rw [← e]; rfl)
        exact (held_pa (v := v) (ih t a k ka (by simp only [paT, Ty.nn, Ty.nns]; omega)).2.2 e).elim
      | true => rw [ht, hu] at e; exact held_both hC e
/-- Two such types have one text just where they are one. -/
theorem text_inj {v : Nat} (hv : v ≤ 60) {t u : Ty} (k : MkT v t) (q : MkT v u) : textL t = textL u ↔ t = u := by
  constructor
  · intro e
    have h0 : stpT [] := fun c hc => by cases hc
    exact ((inj_all hv _ t u (Nat.le_refl _) k q).2.2 [] [] (by simp [e]) h0 h0).1
  · rintro rfl; rfl

end Go.Proofs.YtpfcpeljfgmjgaaDoor
