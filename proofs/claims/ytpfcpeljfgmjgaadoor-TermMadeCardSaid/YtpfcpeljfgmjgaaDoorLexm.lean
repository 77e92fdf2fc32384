/- The mathematics of lexing: what a list of bytes is as tokens. No program. -/
import Derived.WalkKit
namespace Go.Proofs.YtpfcpeljfgmjgaaDoor
set_option linter.unusedVariables false
set_option linter.unusedSimpArgs false

abbrev By := List UInt8
def lowN (c : Nat) : Bool := decide (97 ≤ c) && decide (c ≤ 122)
def uppN (c : Nat) : Bool := decide (65 ≤ c) && decide (c ≤ 90)
def digN (c : Nat) : Bool := decide (48 ≤ c) && decide (c ≤ 57)
def letN (c : Nat) : Bool := lowN c || uppN c
def resN (c : Nat) : Bool := lowN c || uppN c || digN c || decide (c = 95)
def blaN (c : Nat) : Bool := decide (c = 32) || decide (c = 9) || decide (c = 10)
def sigN (c : Nat) : Bool := decide (c = 92) || decide (c = 61) || decide (c = 59) || decide (c = 124) || decide (c = 40) || decide (c = 41) || decide (c = 44) || decide (c = 123) || decide (c = 125)
def noNl (c : Nat) : Bool := decide (c ≠ 10)

/-- The longest row of such bytes at the front. -/
def rowL (p : Nat → Bool) : By → By
  | [] => []
  | c :: r => if p c.toNat then c :: rowL p r else []

def wordsL : List By := [[100, 97, 116, 97], [108, 101, 116], [105, 110], [105, 102], [116, 104, 101, 110], [101, 108, 115, 101], [99, 97, 115, 101], [111, 102], [116, 114, 117, 101], [102, 97, 108, 115, 101]]
def wordB (l : By) : Bool := wordsL.contains l
/-- Is it a row of letters, digits, '_' that is not too long? -/
def rowB (l : By) : Bool := decide (l ≠ []) && decide (l.length ≤ 30) && l.all (fun c => resN c.toNat)
def kindL (l : By) : Nat :=
  if rowB l = false then 0 else if wordB l then 4 else if lowN (l.headD 0).toNat then 1 else if uppN (l.headD 0).toNat then 2 else 0
def numL (l : By) : Nat := l.foldl (fun n c => n * 10 + (c.toNat - 48)) 0

/-- A token: its kind, its text, its number, how many bytes it has. -/
structure Tw where
  k : Nat
  s : By
  n : Nat
  w : Nat
structure Tk where
  k : Nat
  p : Nat
  s : By
  n : Nat
def Tw.at (t : Tw) (i : Nat) : Tk := ⟨t.k, i, t.s, t.n⟩

def tokL : By → Option Tw
  | [] => none
  | b :: r =>
    if letN b.toNat then (if kindL (rowL resN (b :: r)) = 0 then none else some ⟨kindL (rowL resN (b :: r)), rowL resN (b :: r), 0, (rowL resN (b :: r)).length⟩)
    else if digN b.toNat then (if (1 < (rowL digN (b :: r)).length ∧ b.toNat = 48) ∨ 2147483647 < numL (rowL digN (b :: r)) then none else some ⟨3, [], numL (rowL digN (b :: r)), (rowL digN (b :: r)).length⟩)
    else if sigN b.toNat then some ⟨5, [b], 0, 1⟩
    else if b.toNat = 45 ∧ r.head? = some 62 then some ⟨5, [45, 62], 0, 2⟩
    else none

theorem tokL_cons (b : UInt8) (r : By) : tokL (b :: r) =
    if letN b.toNat then (if kindL (rowL resN (b :: r)) = 0 then none else some ⟨kindL (rowL resN (b :: r)), rowL resN (b :: r), 0, (rowL resN (b :: r)).length⟩)
    else if digN b.toNat then (if (1 < (rowL digN (b :: r)).length ∧ b.toNat = 48) ∨ 2147483647 < numL (rowL digN (b :: r)) then none else some ⟨3, [], numL (rowL digN (b :: r)), (rowL digN (b :: r)).length⟩)
    else if sigN b.toNat then some ⟨5, [b], 0, 1⟩
    else if b.toNat = 45 ∧ r.head? = some 62 then some ⟨5, [45, 62], 0, 2⟩
    else none := rfl

/-- Tokens, or where something is that is none. -/
def Lx : Type := Sum Nat (List Tk)
def Lx.bad (i : Nat) : Lx := Sum.inl i
def Lx.ok (l : List Tk) : Lx := Sum.inr l
theorem Lx.cases (x : Lx) : (∃ i, x = Lx.bad i) ∨ ∃ l, x = Lx.ok l := by
  rcases x with i | l
  · exact .inl ⟨i, rfl⟩
  · exact .inr ⟨l, rfl⟩
theorem Lx.ok_inj {a b : List Tk} (h : Lx.ok a = Lx.ok b) : a = b := Sum.inr.inj h
theorem Lx.bad_inj {a b : Nat} (h : Lx.bad a = Lx.bad b) : a = b := Sum.inl.inj h
theorem Lx.bad_ok {i : Nat} {l : List Tk} (h : Lx.bad i = Lx.ok l) : False := by unfold Lx.bad Lx.ok at h; cases h
def Lx.pre (ts : List Tk) : Lx → Lx
  | Sum.inl i => Lx.bad i
  | Sum.inr l => Lx.ok (ts ++ l)
theorem Lx.pre_bad (ts : List Tk) (i : Nat) : (Lx.bad i).pre ts = Lx.bad i := rfl
theorem Lx.pre_ok (ts l : List Tk) : (Lx.ok l).pre ts = Lx.ok (ts ++ l) := rfl
theorem Lx.pre_nil (x : Lx) : x.pre [] = x := by
  rcases Lx.cases x with ⟨i, rfl⟩ | ⟨l, rfl⟩ <;> rfl
theorem Lx.pre_pre (a b : List Tk) (x : Lx) : (x.pre b).pre a = x.pre (a ++ b) := by
  rcases Lx.cases x with ⟨i, rfl⟩ | ⟨l, rfl⟩
  · rfl
  · rw [Lx.pre_ok, Lx.pre_ok, Lx.pre_ok, List.append_assoc]

def lexF : Nat → By → Nat → Lx
  | 0, _, _ => .ok []
  | _ + 1, [], _ => .ok []
  | n + 1, b :: r, i =>
    if blaN b.toNat then lexF n r (i + 1)
    else if b.toNat = 45 ∧ r.head? = some 45 then lexF n (r.drop (rowL noNl r).length) (i + 1 + (rowL noNl r).length)
    else match tokL (b :: r) with
      | none => .bad i
      | some t => (lexF n ((b :: r).drop t.w) (i + t.w)).pre [t.at i]
def lexL (l : By) (i : Nat) : Lx := lexF l.length l i

theorem rowL_le (p : Nat → Bool) : ∀ l, (rowL p l).length ≤ l.length
  | [] => Nat.le_refl _
  | c :: r => by
    unfold rowL; split
    · have := rowL_le p r; simp; omega
    · simp
theorem rowL_pos {p : Nat → Bool} {c : UInt8} {r : By} (h : p c.toNat = true) : 0 < (rowL p (c :: r)).length := by
  unfold rowL; rw [if_pos h]; simp
theorem tokL_pos {l : By} {t : Tw} (h : tokL l = some t) : 0 < t.w ∧ t.w ≤ l.length := by
  cases l with
  | nil => cases h
  | cons b r =>
    rw [tokL_cons] at h
    split at h
    · rename_i hb
      split at h
      · cases h
      · cases h
        refine ⟨rowL_pos ?_, rowL_le _ _⟩
        unfold letN at hb; unfold resN; rw [hb]; rfl
    · split at h
      · rename_i hd
        split at h
        · cases h
        · cases h
          exact ⟨rowL_pos hd, rowL_le _ _⟩
      · split at h
        · cases h; simp
        · split at h
          · rename_i hh
            cases h
            refine ⟨by simp, ?_⟩
            cases r with
            | nil => simp at hh
            | cons x y => simp
          · cases h

theorem lexF_eq : ∀ (n m : Nat) (l : By) (i : Nat), l.length ≤ n → l.length ≤ m → lexF n l i = lexF m l i
  | 0, m, l, i, h, _ => by
    have : l = [] := List.length_eq_zero_iff.1 (by omega)
    subst this
    cases m <;> rfl
  | n + 1, 0, l, i, _, h => by
    have : l = [] := List.length_eq_zero_iff.1 (by omega)
    subst this; rfl
  | n + 1, m + 1, [], i, _, _ => rfl
  | n + 1, m + 1, b :: r, i, h1, h2 => by
    simp only [List.length_cons] at h1 h2
    unfold lexF
    split
    · exact lexF_eq n m r (i + 1) (by omega) (by omega)
    · split
      · exact lexF_eq n m _ _ (by rw [List.length_drop]; omega) (by rw [List.length_drop]; omega)
      · cases ht : tokL (b :: r) with
        | none => rfl
        | some t =>
          have hp := tokL_pos ht
          show (lexF n _ _).pre _ = (lexF m _ _).pre _
          rw [lexF_eq n m _ _ (by rw [List.length_drop, List.length_cons]; omega) (by rw [List.length_drop, List.length_cons]; omega)]

theorem lexL_nil (i : Nat) : lexL [] i = .ok [] := rfl
theorem lexL_blank {b : UInt8} {r : By} (i : Nat) (h : blaN b.toNat = true) : lexL (b :: r) i = lexL r (i + 1) := by
  unfold lexL
  rw [List.length_cons]
  conv => lhs; unfold lexF
  rw [if_pos h]
theorem not_bla {b : UInt8} (h : b.toNat = 45) : ¬ blaN b.toNat = true := by rw [h]; decide
theorem lexL_rem {b : UInt8} {r : By} (i : Nat) (h : b.toNat = 45) (h2 : r.head? = some 45) : lexL (b :: r) i = lexL (r.drop (rowL noNl r).length) (i + 1 + (rowL noNl r).length) := by
  unfold lexL
  rw [List.length_cons]
  conv => lhs; unfold lexF
  rw [if_neg (not_bla h), if_pos ⟨h, h2⟩]
  exact lexF_eq _ _ _ _ (by rw [List.length_drop]; omega) (Nat.le_refl _)
theorem lexL_bad {b : UInt8} {r : By} (i : Nat) (h : blaN b.toNat = false) (h2 : ¬ (b.toNat = 45 ∧ r.head? = some 45)) (ht : tokL (b :: r) = none) : lexL (b :: r) i = .bad i := by
  unfold lexL
  rw [List.length_cons]
  conv => lhs; unfold lexF
  rw [if_neg (by rw [h]; simp), if_neg h2, ht]
theorem lexL_tok {b : UInt8} {r : By} (i : Nat) (h : blaN b.toNat = false) (h2 : ¬ (b.toNat = 45 ∧ r.head? = some 45)) {t : Tw} (ht : tokL (b :: r) = some t) : lexL (b :: r) i = (lexL ((b :: r).drop t.w) (i + t.w)).pre [t.at i] := by
  have hp := tokL_pos ht
  unfold lexL
  rw [List.length_cons]
  conv => lhs; unfold lexF
  rw [if_neg (by rw [h]; simp), if_neg h2, ht]
  show (lexF r.length _ _).pre _ = _
  rw [lexF_eq r.length _ _ _ (by rw [List.length_drop, List.length_cons]; omega) (Nat.le_refl _)]

/-- What is at the front is a token, or nothing that may stand there. -/
def Go1 (l : By) : Prop := ∀ b r, l = b :: r → blaN b.toNat = false ∧ ¬ (b.toNat = 45 ∧ r.head? = some 45)

end Go.Proofs.YtpfcpeljfgmjgaaDoor
