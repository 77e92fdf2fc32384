/- The mathematics of reading programs: types, expressions, declarations; what the reader of package parse makes of tokens. No program. -/
import Derived.Test.YtpfcpeljfgmjgaaDoorLexm
namespace Go.Proofs.YtpfcpeljfgmjgaaDoor
set_option linter.unusedVariables false
set_option linter.unusedSimpArgs false

/-- A type: its kind, number, name, kids. -/
inductive Ty where
  | mk (k n : Int) (s : By) (kids : List Ty) : Ty
mutual
/-- An expression: its kind, place, name, number, kids, alts. -/
inductive Ex where
  | mk (k p : Int) (s : By) (n : Int) (kids : List Ex) (alts : List Al) : Ex
/-- An alt: its place, Con, names, body. -/
inductive Al where
  | mk (p : Int) (s : By) (names : List By) (body : Ex) : Al
end
structure Cn where
  s : By
  p : Int
  args : List Ty
structure Dt where
  s : By
  p : Int
  vars : List By
  cons : List Cn
structure Bd where
  s : By
  p : Int
  body : Ex
structure Pg where
  datas : List Dt
  binds : List Bd
def Ty.zero : Ty := .mk 0 0 [] []
def Ex.zero : Ex := .mk 0 0 [] 0 [] []
def Ex.at : Ex → Int
  | .mk _ p _ _ _ _ => p

/-- What the grammar asks of a token. -/
structure Srt where
  k : Nat
  s : By
deriving DecidableEq
def sName : Srt := ⟨1, []⟩
def sCon : Srt := ⟨2, []⟩
def sInt : Srt := ⟨3, []⟩
def sW (s : By) : Srt := ⟨4, s⟩
def sS (s : By) : Srt := ⟨5, s⟩
def srt (t : Tk) : Srt := if t.k = 4 ∨ t.k = 5 then ⟨t.k, t.s⟩ else ⟨t.k, []⟩
def Tk.zero : Tk := ⟨0, 0, [], 0⟩

/-- The reader: tokens not read, whether it has stopped, where. -/
structure PS where
  ts : List Tk
  st : Bool
  at_ : Nat
def PS.next (σ : PS) : Srt := match σ.ts with
  | [] => ⟨0, []⟩
  | t :: _ => srt t
def PS.sees (σ : PS) (s : Srt) : Bool := decide (σ.next = s)
def PS.tail (σ : PS) : PS := ⟨σ.ts.tail, σ.st, σ.at_⟩
def PS.stop (En : Nat) (σ : PS) : PS := if σ.st = true then σ else ⟨[], true, match σ.ts with
  | [] => En
  | t :: _ => t.p⟩
def PS.head (σ : PS) : Tk := σ.ts.headD Tk.zero
def PS.take (En : Nat) (σ : PS) (s : Srt) : Tk × PS := if σ.sees s = true then (σ.head, σ.tail) else (Tk.zero, σ.stop En)
def PS.skip (σ : PS) (s : Srt) : Bool × PS := if σ.sees s = true then (true, σ.tail) else (false, σ)
/-- As many names as there are. -/
def namesL : List Tk → List By × List Tk
  | [] => ([], [])
  | t :: r => if srt t = sName then (t.s :: (namesL r).1, (namesL r).2) else ([], t :: r)
def PS.names (σ : PS) : List By × PS := ((namesL σ.ts).1, ⟨(namesL σ.ts).2, σ.st, σ.at_⟩)

def rowsL {A : Type} (sep : Srt) (most : Nat) (one : PS → A × PS) : Nat → List A → PS → List A × PS
  | 0, l, σ => (l, σ)
  | f + 1, l, σ => if l.length < most ∧ σ.sees sep = true then rowsL sep most one f (l ++ [(one σ.tail).1]) (one σ.tail).2 else (l, σ)
def rowsF {A : Type} (sep : Srt) (most : Nat) (one : PS → A × PS) (σ : PS) : List A × PS := rowsL sep most one (one σ).2.ts.length [(one σ).1] (one σ).2
def tLpar : By := [40]
def tRpar : By := [41]
def tComma : By := [44]
def tArrow : By := [45, 62]
def tEq : By := [61]
def tSemi : By := [59]
def tBar : By := [124]
def tBack : By := [92]
def tLcur : By := [123]
def tRcur : By := [125]
def tData : By := [100, 97, 116, 97]
def tLet : By := [108, 101, 116]
def tIn : By := [105, 110]
def tIf : By := [105, 102]
def tThen : By := [116, 104, 101, 110]
def tElse : By := [101, 108, 115, 101]
def tCase : By := [99, 97, 115, 101]
def tOf : By := [111, 102]
def tTrue : By := [116, 114, 117, 101]
def tFalse : By := [102, 97, 108, 115, 101]
def many : Nat := 65536
def maxTup : Nat := 8

/-- A bracket: its parts, where it begins. -/
def bracketF {A : Type} (En : Nat) (one : PS → A × PS) (σ : PS) : (List A × Nat) × PS :=
  (((rowsF (sS tComma) maxTup one (σ.take En (sS tLpar)).2).1, (σ.take En (sS tLpar)).1.p), ((rowsF (sS tComma) maxTup one (σ.take En (sS tLpar)).2).2.take En (sS tRpar)).2)

/-! ### Types -/
def placeL (vs : List By) (s : By) : Option Nat := match vs with
  | [] => none
  | v :: r => if v = s then some 0 else (placeL r s).map (· + 1)
def varTy (vs : List By) (s : By) : Ty := match placeL vs s with
  | some i => .mk 1 (i : Int) [] []
  | none => .mk 1 (-1) s []
def variableF (En : Nat) (vs : List By) (σ : PS) : Ty × PS := (varTy vs (σ.take En sName).1.s, (σ.take En sName).2)
def tupTy (l : List Ty) : Ty := match l with
  | [x] => x
  | l => .mk 2 0 tComma l
def tupleTypeF (En : Nat) (T : PS → Ty × PS) (σ : PS) : Ty × PS := (tupTy (bracketF En T σ).1.1, (bracketF En T σ).2)
def atomTypeF (En : Nat) (vs : List By) (T : PS → Ty × PS) (σ : PS) : Ty × PS :=
  if σ.sees sName = true then variableF En vs σ
  else if σ.sees sCon = true then (.mk 2 0 (σ.take En sCon).1.s [], (σ.take En sCon).2)
  else if σ.sees (sS tLpar) = true then tupleTypeF En T σ
  else (Ty.zero, σ.stop En)
def PS.seesType (σ : PS) : Bool := σ.sees sName || σ.sees sCon || σ.sees (sS tLpar)
def atomTypesL (En : Nat) (vs : List By) (T : PS → Ty × PS) : Nat → List Ty → PS → List Ty × PS
  | 0, l, σ => (l, σ)
  | f + 1, l, σ => if σ.seesType = true then atomTypesL En vs T f (l ++ [(atomTypeF En vs T σ).1]) (atomTypeF En vs T σ).2 else (l, σ)
def atomTypesF (En : Nat) (vs : List By) (T : PS → Ty × PS) (σ : PS) : List Ty × PS := atomTypesL En vs T σ.ts.length [] σ
def leftTypeF (En : Nat) (vs : List By) (T : PS → Ty × PS) (σ : PS) : Ty × PS :=
  if σ.sees sCon = true then (.mk 2 0 (σ.take En sCon).1.s (atomTypesF En vs T (σ.take En sCon).2).1, (atomTypesF En vs T (σ.take En sCon).2).2)
  else atomTypeF En vs T σ
def typStep (En : Nat) (vs : List By) (T : PS → Ty × PS) (σ : PS) : Ty × PS :=
  if (leftTypeF En vs T σ).2.sees (sS tArrow) = true then (.mk 2 0 tArrow [(leftTypeF En vs T σ).1, (T (leftTypeF En vs T σ).2.tail).1], (T (leftTypeF En vs T σ).2.tail).2)
  else leftTypeF En vs T σ
def typF (En : Nat) (vs : List By) : Nat → PS → Ty × PS
  | 0 => fun σ => (Ty.zero, σ)
  | n + 1 => typStep En vs (typF En vs n)
def conF (En : Nat) (vs : List By) (n : Nat) (σ : PS) : Cn × PS :=
  (⟨(σ.take En sCon).1.s, ((σ.take En sCon).1.p : Int), (atomTypesF En vs (typF En vs n) (σ.take En sCon).2).1⟩, (atomTypesF En vs (typF En vs n) (σ.take En sCon).2).2)

/-! ### Expressions -/
def beg (s : Srt) : Nat :=
  if s = sName then 1 else if s = sCon then 2 else if s = sInt then 3 else if s = sW tTrue then 4 else if s = sW tFalse then 4
  else if s = sS tBack then 6 else if s = sW tLet then 7 else if s = sS tLpar then 8 else if s = sW tIf then 9 else if s = sW tCase then 10 else 0
def lams (p : Int) (names : List By) (body : Ex) : Ex := names.foldr (fun s b => Ex.mk 6 p s 0 [b] []) body
def leafE (k : Nat) (t : Tk) : Ex := if k = 4 then .mk 4 t.p [] (if t.s = tTrue then 1 else 0) [] [] else .mk k t.p t.s t.n [] []
def lamF (En : Nat) (X : PS → Ex × PS) (σ : PS) : Ex × PS :=
  let a := σ.take En (sS tBack)
  let b := a.2.take En sName
  let m := b.2.names
  let c := m.2.take En (sS tArrow)
  (lams a.1.p (b.1.s :: m.1) (X c.2).1, (X c.2).2)
def bindF (En : Nat) (X : PS → Ex × PS) (σ : PS) : Bd × PS :=
  let a := σ.take En sName
  let m := a.2.names
  let c := m.2.take En (sS tEq)
  (⟨a.1.s, a.1.p, lams a.1.p m.1 (X c.2).1⟩, (X c.2).2)
def letF (En : Nat) (X : PS → Ex × PS) (σ : PS) : Ex × PS :=
  let a := σ.take En (sW tLet)
  let b := bindF En X a.2
  let c := b.2.take En (sW tIn)
  (.mk 7 a.1.p b.1.s 0 [b.1.body, (X c.2).1] [], (X c.2).2)
def choiceF (En : Nat) (X : PS → Ex × PS) (σ : PS) : Ex × PS :=
  let a := σ.take En (sW tIf)
  let x := X a.2
  let b := x.2.take En (sW tThen)
  let y := X b.2
  let c := y.2.take En (sW tElse)
  let z := X c.2
  (.mk 9 a.1.p [] 0 [x.1, y.1, z.1] [], z.2)
def altF (En : Nat) (X : PS → Ex × PS) (σ : PS) : Al × PS :=
  let a := σ.take En sCon
  let m := a.2.names
  let c := m.2.take En (sS tArrow)
  (.mk a.1.p a.1.s m.1 (X c.2).1, (X c.2).2)
def casesF (En : Nat) (X : PS → Ex × PS) (σ : PS) : Ex × PS :=
  let a := σ.take En (sW tCase)
  let x := X a.2
  let b := x.2.take En (sW tOf)
  let c := b.2.take En (sS tLcur)
  let r := rowsF (sS tSemi) many (altF En X) c.2
  let d := r.2.take En (sS tRcur)
  (.mk 10 a.1.p [] 0 [x.1] r.1, d.2)
def tupEx (p : Int) (l : List Ex) : Ex := match l with
  | [x] => x
  | l => .mk 8 p [] 0 l []
def tupleF (En : Nat) (X : PS → Ex × PS) (σ : PS) : Ex × PS := (tupEx (bracketF En X σ).1.2 (bracketF En X σ).1.1, (bracketF En X σ).2)
def isLeaf (k : Nat) : Bool := decide (k = 1) || decide (k = 2) || decide (k = 3) || decide (k = 4)
def atomF (En : Nat) (X : PS → Ex × PS) (σ : PS) : Ex × PS :=
  if isLeaf (beg σ.next) = true then (leafE (beg σ.next) σ.head, σ.tail)
  else if beg σ.next = 8 then tupleF En X σ
  else (Ex.zero, σ.stop En)
def PS.seesAtom (σ : PS) : Bool := isLeaf (beg σ.next) || decide (beg σ.next = 8)
def appL (En : Nat) (X : PS → Ex × PS) : Nat → Ex → PS → Ex × PS
  | 0, e, σ => (e, σ)
  | f + 1, e, σ => if σ.seesAtom = true then appL En X f (.mk 5 e.at [] 0 [e, (atomF En X σ).1] []) (atomF En X σ).2 else (e, σ)
def appF (En : Nat) (X : PS → Ex × PS) (σ : PS) : Ex × PS := appL En X (atomF En X σ).2.ts.length (atomF En X σ).1 (atomF En X σ).2
def exprStep (En : Nat) (X : PS → Ex × PS) (σ : PS) : Ex × PS :=
  if beg σ.next = 6 then lamF En X σ
  else if beg σ.next = 7 then letF En X σ
  else if beg σ.next = 9 then choiceF En X σ
  else if beg σ.next = 10 then casesF En X σ
  else appF En X σ
def exprF (En : Nat) : Nat → PS → Ex × PS
  | 0 => fun σ => (Ex.zero, σ)
  | n + 1 => exprStep En (exprF En n)

/-! ### Programs -/
def dataF (En n : Nat) (σ : PS) : Dt × PS :=
  let a := σ.take En (sW tData)
  let b := a.2.take En sCon
  let m := b.2.names
  let c := m.2.take En (sS tEq)
  let r := rowsF (sS tBar) many (conF En m.1 n) c.2
  let d := r.2.take En (sS tSemi)
  (⟨b.1.s, b.1.p, m.1, r.1⟩, d.2)
def topF (En n : Nat) (σ : PS) : Bd × PS :=
  let a := σ.take En (sW tLet)
  let b := bindF En (exprF En n) a.2
  (b.1, (b.2.take En (sS tSemi)).2)
def programL (En n : Nat) : Nat → Pg → PS → Pg × PS
  | 0, p, σ => (p, σ)
  | f + 1, p, σ => if σ.ts = [] then (p, σ)
    else if σ.sees (sW tData) = true then programL En n f ⟨p.datas ++ [(dataF En n σ).1], p.binds⟩ (dataF En n σ).2
    else programL En n f ⟨p.datas, p.binds ++ [(topF En n σ).1]⟩ (topF En n σ).2
def programF (En n : Nat) (σ : PS) : Pg × PS := programL En n σ.ts.length ⟨[], []⟩ σ

/-! ### How deep -/
mutual
def Ty.deep : Ty → Nat
  | .mk _ _ _ kids => 1 + Ty.deeps kids
def Ty.deeps : List Ty → Nat
  | [] => 0
  | x :: r => max x.deep (Ty.deeps r)
end
mutual
def Ex.deep : Ex → Nat
  | .mk _ _ _ _ kids alts => 1 + max (Ex.deeps kids) (Al.deeps alts)
def Ex.deeps : List Ex → Nat
  | [] => 0
  | x :: r => max x.deep (Ex.deeps r)
def Al.deep : Al → Nat
  | .mk _ _ _ b => b.deep
def Al.deeps : List Al → Nat
  | [] => 0
  | x :: r => max x.deep (Al.deeps r)
end
def Cn.tooDeep (c : Cn) : Bool := c.args.any fun t => decide (60 < t.deep)
def tooDeepL (p : Pg) : List Int := (p.datas.flatMap fun d => (d.cons.filter Cn.tooDeep).map Cn.p) ++ (p.binds.filter fun b => decide (60 < b.body.deep)).map Bd.p
def minL : List Int → Int
  | [] => 0
  | x :: r => r.foldl min x

/-- Package parse's Parse: a program, or an error and where. -/
structure Out3 where
  p : Pg
  e : Nat
  at_ : Int
def parseTs (len : Nat) (ts : List Tk) : Out3 :=
  let r := programF len (ts.length + 1) ⟨ts, false, 0⟩
  if r.2.st = true then ⟨⟨[], []⟩, 4, r.2.at_⟩
  else if tooDeepL r.1 = [] then ⟨r.1, 0, 0⟩ else ⟨⟨[], []⟩, 5, minL (tooDeepL r.1)⟩
def parseL (s : By) : Out3 := match lexL s 0 with
  | Sum.inl i => ⟨⟨[], []⟩, 3, i⟩
  | Sum.inr ts => parseTs s.length ts

/-! ### Nothing is read twice -/
def Dec {A : Type} (X : PS → A × PS) : Prop := ∀ σ, (X σ).2.ts.length ≤ σ.ts.length
theorem tail_len (σ : PS) : σ.tail.ts.length = σ.ts.length - 1 := by simp [PS.tail]
theorem stop_len (En : Nat) (σ : PS) : (σ.stop En).ts.length ≤ σ.ts.length := by
  unfold PS.stop; split
  · exact Nat.le_refl _
  · simp
theorem take_len (En : Nat) (σ : PS) (s : Srt) : (σ.take En s).2.ts.length ≤ σ.ts.length := by
  unfold PS.take; split
  · rw [tail_len]; omega
  · exact stop_len En σ
theorem sees_pos {σ : PS} {s : Srt} (h : σ.sees s = true) (hs : s.k ≠ 0) : 0 < σ.ts.length := by
  unfold PS.sees PS.next at h
  cases e : σ.ts with
  | nil => rw [e] at h; simp at h; subst h; exact absurd rfl hs
  | cons t r => simp
theorem take_lt {En : Nat} {σ : PS} {s : Srt} (h : σ.sees s = true) (hs : s.k ≠ 0) : (σ.take En s).2.ts.length < σ.ts.length := by
  have := sees_pos h hs
  unfold PS.take; rw [if_pos h]
  show σ.tail.ts.length < _
  rw [tail_len]; omega
theorem namesL_len : ∀ l : List Tk, (namesL l).2.length ≤ l.length
  | [] => by simp [namesL]
  | t :: r => by
    unfold namesL; split
    · have := namesL_len r; simp; omega
    · simp
theorem names_len (σ : PS) : σ.names.2.ts.length ≤ σ.ts.length := namesL_len σ.ts
theorem rowsL_len {A : Type} {sep : Srt} {most : Nat} {one : PS → A × PS} (h : Dec one) : ∀ (f : Nat) (l : List A) (σ : PS), (rowsL sep most one f l σ).2.ts.length ≤ σ.ts.length
  | 0, l, σ => Nat.le_refl _
  | f + 1, l, σ => by
    unfold rowsL; split
    · have h1 := rowsL_len (sep := sep) (most := most) h f (l ++ [(one σ.tail).1]) (one σ.tail).2
      have h2 := h σ.tail
      rw [tail_len] at h2; omega
    · exact Nat.le_refl _
theorem rowsF_len {A : Type} {sep : Srt} {most : Nat} {one : PS → A × PS} (h : Dec one) (σ : PS) : (rowsF sep most one σ).2.ts.length ≤ σ.ts.length :=
  Nat.le_trans (rowsL_len h _ _ _) (h σ)
theorem bracketF_len {A : Type} {En : Nat} {one : PS → A × PS} (h : Dec one) (σ : PS) : (bracketF En one σ).2.ts.length ≤ σ.ts.length :=
  Nat.le_trans (take_len En _ _) (Nat.le_trans (rowsF_len h _) (take_len En _ _))
theorem atomTypeF_len {En : Nat} {vs : List By} {T : PS → Ty × PS} (h : Dec T) (σ : PS) : (atomTypeF En vs T σ).2.ts.length ≤ σ.ts.length := by
  unfold atomTypeF
  split
  · exact take_len En _ _
  · split
    · exact take_len En _ _
    · split
      · exact bracketF_len h σ
      · exact stop_len En σ
theorem atomTypeF_lt {En : Nat} {vs : List By} {T : PS → Ty × PS} (h : Dec T) {σ : PS} (hs : σ.seesType = true) : (atomTypeF En vs T σ).2.ts.length < σ.ts.length := by
  unfold atomTypeF
  split
  · rename_i h1; exact take_lt h1 (by decide)
  · split
    · rename_i h1; exact take_lt h1 (by decide)
    · split
      · rename_i h1
        exact Nat.lt_of_le_of_lt (Nat.le_trans (take_len En _ _) (rowsF_len h _)) (take_lt h1 (by decide))
      · rename_i h1 h2 h3
        simp [PS.seesType, h1, h2, h3] at hs
theorem atomTypesL_len {En : Nat} {vs : List By} {T : PS → Ty × PS} (h : Dec T) : ∀ (f : Nat) (l : List Ty) (σ : PS), (atomTypesL En vs T f l σ).2.ts.length ≤ σ.ts.length
  | 0, l, σ => Nat.le_refl _
  | f + 1, l, σ => by
    unfold atomTypesL; split
    · exact Nat.le_trans (atomTypesL_len h f _ _) (atomTypeF_len h σ)
    · exact Nat.le_refl _
theorem leftTypeF_len {En : Nat} {vs : List By} {T : PS → Ty × PS} (h : Dec T) (σ : PS) : (leftTypeF En vs T σ).2.ts.length ≤ σ.ts.length := by
  unfold leftTypeF; split
  · exact Nat.le_trans (atomTypesL_len h _ _ _) (take_len En _ _)
  · exact atomTypeF_len h σ
theorem typF_len (En : Nat) (vs : List By) : ∀ n, Dec (typF En vs n)
  | 0 => fun σ => Nat.le_refl _
  | n + 1 => fun σ => by
    show (typStep En vs (typF En vs n) σ).2.ts.length ≤ _
    unfold typStep
    have h1 := leftTypeF_len (En := En) (vs := vs) (typF_len En vs n) σ
    split
    · refine Nat.le_trans (typF_len En vs n _) ?_
      rw [tail_len]; omega
    · exact h1
theorem conF_len (En : Nat) (vs : List By) (n : Nat) : Dec (conF En vs n) := fun σ =>
  Nat.le_trans (atomTypesL_len (typF_len En vs n) _ _ _) (take_len En _ _)
theorem beg_pos {σ : PS} (h : beg σ.next ≠ 0) : 0 < σ.ts.length := by
  cases e : σ.ts with
  | nil => exfalso; apply h; unfold PS.next; rw [e]; decide
  | cons t r => simp
theorem beg_sees {s : Srt} {k : Nat} (h : beg s = k) : (k = 6 → s = sS tBack) ∧ (k = 7 → s = sW tLet) ∧ (k = 8 → s = sS tLpar) ∧ (k = 9 → s = sW tIf) ∧ (k = 10 → s = sW tCase) := by
  unfold beg at h
  repeat' split at h
  all_goals (subst h; simp_all)
theorem sees_of {σ : PS} {s : Srt} (h : σ.next = s) : σ.sees s = true := decide_eq_true h
section
variable {En : Nat} {X : PS → Ex × PS} (h : Dec X)
include h
theorem lamF_len (σ : PS) : (lamF En X σ).2.ts.length ≤ (σ.take En (sS tBack)).2.ts.length :=
  Nat.le_trans (h _) (Nat.le_trans (take_len En _ _) (Nat.le_trans (names_len _) (take_len En _ _)))
theorem bindF_len (σ : PS) : (bindF En X σ).2.ts.length ≤ σ.ts.length :=
  Nat.le_trans (h _) (Nat.le_trans (take_len En _ _) (Nat.le_trans (names_len _) (take_len En _ _)))
theorem letF_len (σ : PS) : (letF En X σ).2.ts.length ≤ (σ.take En (sW tLet)).2.ts.length :=
  Nat.le_trans (h _) (Nat.le_trans (take_len En _ _) (bindF_len h _))
theorem choiceF_len (σ : PS) : (choiceF En X σ).2.ts.length ≤ (σ.take En (sW tIf)).2.ts.length :=
  Nat.le_trans (h _) (Nat.le_trans (take_len En _ _) (Nat.le_trans (h _) (Nat.le_trans (take_len En _ _) (h _))))
theorem altF_len : Dec (altF En X) := fun σ =>
  Nat.le_trans (h _) (Nat.le_trans (take_len En _ _) (Nat.le_trans (names_len _) (take_len En _ _)))
theorem casesF_len (σ : PS) : (casesF En X σ).2.ts.length ≤ (σ.take En (sW tCase)).2.ts.length :=
  Nat.le_trans (take_len En _ _) (Nat.le_trans (rowsF_len (altF_len h) _) (Nat.le_trans (take_len En _ _) (Nat.le_trans (take_len En _ _) (h _))))
theorem tupleF_len (σ : PS) : (tupleF En X σ).2.ts.length ≤ (σ.take En (sS tLpar)).2.ts.length :=
  Nat.le_trans (take_len En _ _) (rowsF_len h _)
theorem atomF_len (σ : PS) : (atomF En X σ).2.ts.length ≤ σ.ts.length := by
  unfold atomF; split
  · rw [tail_len]; omega
  · split
    · exact Nat.le_trans (tupleF_len h σ) (take_len En _ _)
    · exact stop_len En σ
theorem atomF_lt {σ : PS} (hs : σ.seesAtom = true) : (atomF En X σ).2.ts.length < σ.ts.length := by
  unfold atomF; split
  · rename_i h1
    have h2 : 0 < σ.ts.length := beg_pos (fun e => by rw [e] at h1; exact absurd h1 (by decide))
    rw [tail_len]; omega
  · split
    · rename_i h1 h2
      exact Nat.lt_of_le_of_lt (tupleF_len h σ) (take_lt (sees_of ((beg_sees h2).2.2.1 rfl)) (by decide))
    · rename_i h1 h2
      simp [PS.seesAtom, h1, h2] at hs
theorem appL_len : ∀ (f : Nat) (e : Ex) (σ : PS), (appL En X f e σ).2.ts.length ≤ σ.ts.length
  | 0, e, σ => Nat.le_refl _
  | f + 1, e, σ => by
    unfold appL; split
    · exact Nat.le_trans (appL_len f _ _) (atomF_len h σ)
    · exact Nat.le_refl _
theorem appF_len (σ : PS) : (appF En X σ).2.ts.length ≤ σ.ts.length := Nat.le_trans (appL_len h _ _ _) (atomF_len h σ)
theorem exprStep_len : Dec (exprStep En X) := fun σ => by
  unfold exprStep; split
  · exact Nat.le_trans (lamF_len h σ) (take_len En _ _)
  · split
    · exact Nat.le_trans (letF_len h σ) (take_len En _ _)
    · split
      · exact Nat.le_trans (choiceF_len h σ) (take_len En _ _)
      · split
        · exact Nat.le_trans (casesF_len h σ) (take_len En _ _)
        · exact appF_len h σ
end
theorem exprF_len (En : Nat) : ∀ n, Dec (exprF En n)
  | 0 => fun σ => Nat.le_refl _
  | n + 1 => exprStep_len (exprF_len En n)
theorem stop_lt {En : Nat} {σ : PS} (h : σ.st = true → σ.ts = []) : (σ.stop En).ts = [] := by
  unfold PS.stop; split
  · rename_i e; exact h e
  · rfl

end Go.Proofs.YtpfcpeljfgmjgaaDoor
