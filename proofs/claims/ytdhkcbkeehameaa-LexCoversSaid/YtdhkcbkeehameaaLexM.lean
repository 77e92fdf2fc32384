/- Mathematics of lexing: what stands behind a line end; places moved; what is between. No program. -/
import Derived.Test.YtdhkcbkeehameaaLexd
namespace Go.Proofs.Ytdhkcbkeehameaa
set_option linter.unusedVariables false
set_option linter.unusedSimpArgs false

theorem rowL_nl {p : Nat → Bool} (hp : p 10 = false) (r : By) : ∀ t : By, rowL p (t ++ 10 :: r) = rowL p t
  | [] => by rw [List.nil_append, rowL_no (by show ¬ p 10 = true; rw [hp]; simp)]; rfl
  | c :: t => by
    rw [List.cons_append]
    by_cases h : p c.toNat = true
    · rw [rowL_yes h, rowL_yes h, rowL_nl hp r t]
    · rw [rowL_no h, rowL_no h]
theorem drop_app {α : Type} (t r : List α) (k : Nat) (h : k ≤ t.length) : (t ++ r).drop k = t.drop k ++ r := by
  rw [List.drop_append]; simp [show k - t.length = 0 by omega]
theorem head_app (t r : By) (x : UInt8) (hx : x ≠ 10) : (t ++ 10 :: r).head? = some x ↔ t.head? = some x := by
  cases t with
  | nil => simp; exact fun h => hx h.symm
  | cons a b => simp
theorem tokL_nl (b : UInt8) (t r : By) : tokL (b :: (t ++ 10 :: r)) = tokL (b :: t) := by
  rw [tokL_cons, tokL_cons, ← List.cons_append, rowL_nl (p := resN) rfl, rowL_nl (p := digN) rfl]
  have : (b.toNat = 45 ∧ (t ++ 10 :: r).head? = some 62) ↔ (b.toNat = 45 ∧ t.head? = some 62) := by rw [head_app t r 62 (by decide)]
  simp only [this]

theorem lexL_nl (r : By) : ∀ (n : Nat) (a : By) (i : Nat), a.length ≤ n → (∀ j, lexL a i = .bad j → lexL (a ++ 10 :: r) i = .bad j) ∧ (∀ ts, lexL a i = .ok ts → lexL (a ++ 10 :: r) i = (lexL (10 :: r) (i + a.length)).pre ts)
  | n, [], i, _ => ⟨fun j h => (Lx.bad_ok h.symm).elim, fun ts h => by obtain rfl := Lx.ok_inj h; rw [Lx.pre_nil]; rfl⟩
  | 0, b :: t, i, h => by simp at h
  | n + 1, b :: t, i, hn => by
    simp only [List.length_cons] at hn
    rw [List.cons_append]
    cases hb : blaN b.toNat
    · by_cases hr : b.toNat = 45 ∧ t.head? = some 45
      · have hr2 : b.toNat = 45 ∧ (t ++ 10 :: r).head? = some 45 := ⟨hr.1, (head_app t r 45 (by decide)).2 hr.2⟩
        have hle := rowL_le noNl t
        have ih := lexL_nl r n (t.drop (rowL noNl t).length) (i + 1 + (rowL noNl t).length) (by rw [List.length_drop]; omega)
        rw [lexL_rem i hr.1 hr.2, lexL_rem i hr2.1 hr2.2, rowL_nl (p := noNl) rfl, drop_app _ _ _ hle]
        refine ⟨ih.1, fun ts h => ?_⟩
        rw [ih.2 ts h, List.length_drop, List.length_cons]
        congr 2; omega
      · have hr2 : ¬ (b.toNat = 45 ∧ (t ++ 10 :: r).head? = some 45) := fun h => hr ⟨h.1, (head_app t r 45 (by decide)).1 h.2⟩
        have ht := tokL_nl b t r
        cases hk : tokL (b :: t) with
        | none =>
          rw [lexL_bad i hb hr hk, lexL_bad i hb hr2 (by rw [ht]; exact hk)]
          exact ⟨fun j h => h, fun ts h => (Lx.bad_ok h).elim⟩
        | some x =>
          have hp := tokL_pos hk
          have ih := lexL_nl r n ((b :: t).drop x.w) (i + x.w) (by simp only [List.length_drop, List.length_cons]; omega)
          rw [lexL_tok i hb hr hk, lexL_tok i hb hr2 (by rw [ht]; exact hk), ← List.cons_append, drop_app _ _ _ hp.2]
          refine ⟨fun j h => ?_, fun ts h => ?_⟩
          · rcases Lx.cases (lexL ((b :: t).drop x.w) (i + x.w)) with ⟨q, hq⟩ | ⟨l, hq⟩
            · rw [ih.1 q hq]; rw [hq] at h; exact h
            · rw [hq] at h; exact (Lx.bad_ok h.symm).elim
          · rcases Lx.cases (lexL ((b :: t).drop x.w) (i + x.w)) with ⟨q, hq⟩ | ⟨l, hq⟩
            · rw [hq] at h; exact (Lx.bad_ok h).elim
            · rw [hq, Lx.pre_ok] at h
              obtain rfl := Lx.ok_inj h
              rw [ih.2 l hq, Lx.pre_pre, List.length_drop]
              congr 2
              have := hp.2
              simp only [List.length_cons] at this ⊢
              omega
    · have ih := lexL_nl r n t (i + 1) (by omega)
      rw [lexL_blank i hb, lexL_blank i hb]
      refine ⟨ih.1, fun ts h => ?_⟩
      rw [ih.2 ts h, List.length_cons]
      congr 2; omega

/-! ### Places moved -/
def Tk.mv (d : Nat) (t : Tk) : Tk := ⟨t.k, t.p + d, t.s, t.n⟩
def Lx.mv (d : Nat) : Lx → Lx
  | Sum.inl i => Lx.bad (i + d)
  | Sum.inr l => Lx.ok (l.map (Tk.mv d))
theorem Lx.mv_pre (d : Nat) (ts : List Tk) (x : Lx) : (x.pre ts).mv d = (x.mv d).pre (ts.map (Tk.mv d)) := by
  rcases Lx.cases x with ⟨i, rfl⟩ | ⟨l, rfl⟩
  · rfl
  · show Lx.ok ((ts ++ l).map _) = Lx.ok (ts.map _ ++ l.map _)
    rw [List.map_append]
theorem lexL_mv (d : Nat) : ∀ (n : Nat) (a : By) (i : Nat), a.length ≤ n → lexL a (i + d) = (lexL a i).mv d
  | n, [], i, _ => rfl
  | 0, b :: t, i, h => by simp at h
  | n + 1, b :: t, i, hn => by
    simp only [List.length_cons] at hn
    cases hb : blaN b.toNat
    · by_cases hr : b.toNat = 45 ∧ t.head? = some 45
      · have hle := rowL_le noNl t
        rw [lexL_rem _ hr.1 hr.2, lexL_rem _ hr.1 hr.2, ← lexL_mv d n _ _ (by rw [List.length_drop]; omega)]
        congr 1; omega
      · cases hk : tokL (b :: t) with
        | none => rw [lexL_bad _ hb hr hk, lexL_bad _ hb hr hk]; rfl
        | some x =>
          have hp := tokL_pos hk
          rw [lexL_tok _ hb hr hk, lexL_tok _ hb hr hk, Lx.mv_pre, ← lexL_mv d n _ _ (by simp only [List.length_drop, List.length_cons]; omega)]
          show (lexL _ (i + d + x.w)).pre [x.at (i + d)] = (lexL _ (i + x.w + d)).pre [x.at (i + d)]
          congr 2; omega
    · rw [lexL_blank _ hb, lexL_blank _ hb, ← lexL_mv d n t (i + 1) (by omega)]
      congr 1; omega
theorem lexL_at (a : By) (i : Nat) : lexL a i = (lexL a 0).mv i := by
  have := lexL_mv i a.length a 0 (Nat.le_refl _)
  rwa [Nat.zero_add] at this
theorem lexL_none {a : By} {i : Nat} (j : Nat) (h : lexL a i = .ok []) : lexL a j = .ok [] := by
  rw [lexL_at] at h ⊢
  rcases Lx.cases (lexL a 0) with ⟨q, hq⟩ | ⟨l, hq⟩
  · rw [hq] at h; exact (Lx.bad_ok h).elim
  · rw [hq] at h ⊢
    have := Lx.ok_inj h
    simp at this
    subst this; rfl

theorem lexF_bad_le : ∀ (n : Nat) (l : By) (i j : Nat), l.length ≤ n → lexF n l i = .bad j → i ≤ j ∧ j < i + l.length
  | 0, l, i, j, _, h => (Lx.bad_ok h.symm).elim
  | n + 1, [], i, j, _, h => (Lx.bad_ok h.symm).elim
  | n + 1, b :: r, i, j, hn, h => by
    simp only [List.length_cons] at hn ⊢
    unfold lexF at h
    split at h
    · have := lexF_bad_le n r (i + 1) j (by omega) h; omega
    · split at h
      · have h1 := lexF_bad_le n _ _ j (by rw [List.length_drop]; omega) h
        rw [List.length_drop] at h1; omega
      · cases ht : tokL (b :: r) with
        | none => rw [ht] at h; have := Lx.bad_inj h; omega
        | some t =>
          rw [ht] at h
          have hp := tokL_pos ht
          simp only [List.length_cons] at hp
          rcases Lx.cases (lexF n ((b :: r).drop t.w) (i + t.w)) with ⟨q, hq⟩ | ⟨l, hq⟩
          · have h' : (lexF n ((b :: r).drop t.w) (i + t.w)).pre [t.at i] = .bad j := h
            rw [hq] at h'
            obtain rfl := Lx.bad_inj h'
            have h1 := lexF_bad_le n _ _ q (by simp only [List.length_drop, List.length_cons]; omega) hq
            simp only [List.length_drop, List.length_cons] at h1
            omega
          · have h' : (lexF n ((b :: r).drop t.w) (i + t.w)).pre [t.at i] = .bad j := h
            rw [hq] at h'
            exact (Lx.bad_ok h'.symm).elim
theorem lexL_bad_le {l : By} {j : Nat} (h : lexL l 0 = .bad j) : j < l.length := by
  have := lexF_bad_le _ l 0 j (Nat.le_refl _) h; omega

/-! ### Gaps -/
def gtab : List By := [[32], [10], [9], [45, 45, 32, 108, 101, 116, 32, 120, 10], [45, 45, 10]]
def gat (b : Nat) : By := gtab.getD (b % 5) []
def gapL (gs : List Nat) : By := 10 :: gs.flatMap gat
theorem lexL_bl {b : UInt8} (X : By) (i : Nat) (h : blaN b.toNat = true) : lexL (b :: X) i = lexL X (i + 1) := lexL_blank i h
theorem lexL_piece (X : By) (i b : Nat) : lexL (gat b ++ X) i = lexL X (i + (gat b).length) := by
  have h : b % 5 = 0 ∨ b % 5 = 1 ∨ b % 5 = 2 ∨ b % 5 = 3 ∨ b % 5 = 4 := by omega
  unfold gat
  rcases h with h | h | h | h | h <;> rw [h]
  · exact lexL_bl X i rfl
  · exact lexL_bl X i rfl
  · exact lexL_bl X i rfl
  · show lexL (45 :: 45 :: 32 :: 108 :: 101 :: 116 :: 32 :: 120 :: 10 :: X) i = lexL X (i + 9)
    have e : rowL noNl (45 :: 32 :: 108 :: 101 :: 116 :: 32 :: 120 :: 10 :: X) = [45, 32, 108, 101, 116, 32, 120] := by simp [rowL, noNl]
    rw [lexL_rem i rfl rfl, e]
    exact lexL_bl X (i + 1 + 7) rfl
  · show lexL (45 :: 45 :: 10 :: X) i = lexL X (i + 3)
    have e : rowL noNl (45 :: 10 :: X) = [45] := by simp [rowL, noNl]
    rw [lexL_rem i rfl rfl, e]
    exact lexL_bl X (i + 1 + 1) rfl
theorem lexL_pieces (X : By) : ∀ (gs : List Nat) (i : Nat), lexL (gs.flatMap gat ++ X) i = lexL X (i + (gs.flatMap gat).length)
  | [], i => by simp
  | g :: gs, i => by
    rw [List.flatMap_cons, List.append_assoc, lexL_piece, lexL_pieces X gs, List.length_append]
    congr 1; omega
theorem lexL_gap (X : By) (gs : List Nat) (i : Nat) : lexL (gapL gs ++ X) i = lexL X (i + (gapL gs).length) := by
  unfold gapL
  rw [List.cons_append, lexL_bl _ _ rfl, lexL_pieces, List.length_cons]
  congr 1; omega
/-- Two texts with a gap between. -/
theorem lexL_two (A B : By) (gs : List Nat) : (∀ j, lexL A 0 = .bad j → lexL (A ++ gapL gs ++ B) 0 = .bad j) ∧
    (∀ ts, lexL A 0 = .ok ts → lexL (A ++ gapL gs ++ B) 0 = ((lexL B 0).mv (A.length + (gapL gs).length)).pre ts) := by
  have h := lexL_nl (gs.flatMap gat ++ B) A.length A 0 (Nat.le_refl _)
  have e : A ++ gapL gs ++ B = A ++ 10 :: (gs.flatMap gat ++ B) := by unfold gapL; simp
  rw [e]
  refine ⟨h.1, fun ts ht => ?_⟩
  rw [h.2 ts ht, show (10 : UInt8) :: (gs.flatMap gat ++ B) = gapL gs ++ B by unfold gapL; simp, lexL_gap, ← lexL_at, Nat.zero_add]
theorem gat_le (b : Nat) : (gat b).length ≤ 9 := by
  have h : ∀ m, m < 5 → (gtab.getD m []).length ≤ 9 := by decide
  exact h _ (Nat.mod_lt _ (by omega))
theorem gaps_le : ∀ gs : List Nat, (gs.flatMap gat).length ≤ gs.length * 9
  | [] => by simp
  | g :: gs => by
    have h1 := gaps_le gs
    have h2 := gat_le g
    rw [List.flatMap_cons, List.length_append, List.length_cons]; omega

end Go.Proofs.Ytdhkcbkeehameaa
