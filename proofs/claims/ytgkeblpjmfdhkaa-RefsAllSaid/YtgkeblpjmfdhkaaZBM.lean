/- The mathematics of reading programs: types, expressions, declarations; what the reader of package parse makes of tokens. No program. Laws on maps that a call made: look-ups and stores with the answer known; moved worlds. No program. Words on memory for trees: cells that hold numbers, texts, slices of cells, to any depth (Cl, InC); types, expressions, declarations as such cells. No program. Package parse's reader in memory: its box, its tokens, its two maps; what the grammar asks of a token, as a value. Package parse's reader: next, sees, stop, take, skip. Package parse's reader: stop, take, skip. What is carried from call to call of the reader (Car); take, skip, sees, stop, names in that form. -/
import Derived.Test.YtgkeblpjmfdhkaaZAM
import Derived.DeepKeys4
import Derived.Maps.OwnSet
import Derived.Maps.OwnOps
import Derived.StringKeys
import Derived.Deep.RegionWith
import Derived.Deep.RegionHeld3
import Derived.Deep.AppendLies
namespace Go.Proofs.Ytgkeblpjmfdhkaa
set_option linter.unusedVariables false
set_option linter.unusedSimpArgs false

/-- A type: its kind, number, name, kids. -/
inductive Ty where
  | mk (k n : Int) (s : By) (kids : List Ty) : Ty
mutual
/-- An expression: its kind, place, name, number, kids, alts. -/
inductive Ex where
  | mk (k p : Int) (s : By) (n : Int) (kids : List Ex) (alts : List Al) : Ex
/-- An alt: its place, Con, names, body. -/
inductive Al where
  | mk (p : Int) (s : By) (names : List By) (body : Ex) : Al
end
structure Cn where
  s : By
  p : Int
  args : List Ty
structure Dt where
  s : By
  p : Int
  vars : List By
  cons : List Cn
structure Bd where
  s : By
  p : Int
  body : Ex
structure Pg where
  datas : List Dt
  binds : List Bd
def Ty.zero : Ty := .mk 0 0 [] []
def Ex.zero : Ex := .mk 0 0 [] 0 [] []
def Ex.at : Ex → Int
  | .mk _ p _ _ _ _ => p

/-- What the grammar asks of a token. -/
structure Srt where
  k : Nat
  s : By
deriving DecidableEq
def sName : Srt := ⟨1, []⟩
def sCon : Srt := ⟨2, []⟩
def sInt : Srt := ⟨3, []⟩
def sW (s : By) : Srt := ⟨4, s⟩
def sS (s : By) : Srt := ⟨5, s⟩
def srt (t : Tk) : Srt := if t.k = 4 ∨ t.k = 5 then ⟨t.k, t.s⟩ else ⟨t.k, []⟩
def Tk.zero : Tk := ⟨0, 0, [], 0⟩

/-- The reader: tokens not read, whether it has stopped, where. -/
structure PS where
  ts : List Tk
  st : Bool
  at_ : Nat
def PS.next (σ : PS) : Srt := match σ.ts with
  | [] => ⟨0, []⟩
  | t :: _ => srt t
def PS.sees (σ : PS) (s : Srt) : Bool := decide (σ.next = s)
def PS.tail (σ : PS) : PS := ⟨σ.ts.tail, σ.st, σ.at_⟩
def PS.stop (En : Nat) (σ : PS) : PS := if σ.st = true then σ else ⟨[], true, match σ.ts with
  | [] => En
  | t :: _ => t.p⟩
def PS.head (σ : PS) : Tk := σ.ts.headD Tk.zero
def PS.take (En : Nat) (σ : PS) (s : Srt) : Tk × PS := if σ.sees s = true then (σ.head, σ.tail) else (Tk.zero, σ.stop En)
def PS.skip (σ : PS) (s : Srt) : Bool × PS := if σ.sees s = true then (true, σ.tail) else (false, σ)
/-- As many names as there are. -/
def namesL : List Tk → List By × List Tk
  | [] => ([], [])
  | t :: r => if srt t = sName then (t.s :: (namesL r).1, (namesL r).2) else ([], t :: r)
def PS.names (σ : PS) : List By × PS := ((namesL σ.ts).1, ⟨(namesL σ.ts).2, σ.st, σ.at_⟩)

def rowsL {A : Type} (sep : Srt) (most : Nat) (one : PS → A × PS) : Nat → List A → PS → List A × PS
  | 0, l, σ => (l, σ)
  | f + 1, l, σ => if l.length < most ∧ σ.sees sep = true then rowsL sep most one f (l ++ [(one σ.tail).1]) (one σ.tail).2 else (l, σ)
def rowsF {A : Type} (sep : Srt) (most : Nat) (one : PS → A × PS) (σ : PS) : List A × PS := rowsL sep most one (one σ).2.ts.length [(one σ).1] (one σ).2
def tLpar : By := [40]
def tRpar : By := [41]
def tComma : By := [44]
def tArrow : By := [45, 62]
def tEq : By := [61]
def tSemi : By := [59]
def tBar : By := [124]
def tBack : By := [92]
def tLcur : By := [123]
def tRcur : By := [125]
def tData : By := [100, 97, 116, 97]
def tLet : By := [108, 101, 116]
def tIn : By := [105, 110]
def tIf : By := [105, 102]
def tThen : By := [116, 104, 101, 110]
def tElse : By := [101, 108, 115, 101]
def tCase : By := [99, 97, 115, 101]
def tOf : By := [111, 102]
def tTrue : By := [116, 114, 117, 101]
def tFalse : By := [102, 97, 108, 115, 101]
def many : Nat := 65536
def maxTup : Nat := 8

/-- A bracket: its parts, where it begins. -/
def bracketF {A : Type} (En : Nat) (one : PS → A × PS) (σ : PS) : (List A × Nat) × PS :=
  (((rowsF (sS tComma) maxTup one (σ.take En (sS tLpar)).2).1, (σ.take En (sS tLpar)).1.p), ((rowsF (sS tComma) maxTup one (σ.take En (sS tLpar)).2).2.take En (sS tRpar)).2)

def placeL (vs : List By) (s : By) : Option Nat := match vs with
  | [] => none
  | v :: r => if v = s then some 0 else (placeL r s).map (· + 1)
def varTy (vs : List By) (s : By) : Ty := match placeL vs s with
  | some i => .mk 1 (i : Int) [] []
  | none => .mk 1 (-1) s []
def variableF (En : Nat) (vs : List By) (σ : PS) : Ty × PS := (varTy vs (σ.take En sName).1.s, (σ.take En sName).2)
def tupTy (l : List Ty) : Ty := match l with
  | [x] => x
  | l => .mk 2 0 tComma l
def tupleTypeF (En : Nat) (T : PS → Ty × PS) (σ : PS) : Ty × PS := (tupTy (bracketF En T σ).1.1, (bracketF En T σ).2)
def atomTypeF (En : Nat) (vs : List By) (T : PS → Ty × PS) (σ : PS) : Ty × PS :=
  if σ.sees sName = true then variableF En vs σ
  else if σ.sees sCon = true then (.mk 2 0 (σ.take En sCon).1.s [], (σ.take En sCon).2)
  else if σ.sees (sS tLpar) = true then tupleTypeF En T σ
  else (Ty.zero, σ.stop En)
def PS.seesType (σ : PS) : Bool := σ.sees sName || σ.sees sCon || σ.sees (sS tLpar)
def atomTypesL (En : Nat) (vs : List By) (T : PS → Ty × PS) : Nat → List Ty → PS → List Ty × PS
  | 0, l, σ => (l, σ)
  | f + 1, l, σ => if σ.seesType = true then atomTypesL En vs T f (l ++ [(atomTypeF En vs T σ).1]) (atomTypeF En vs T σ).2 else (l, σ)
def atomTypesF (En : Nat) (vs : List By) (T : PS → Ty × PS) (σ : PS) : List Ty × PS := atomTypesL En vs T σ.ts.length [] σ
def leftTypeF (En : Nat) (vs : List By) (T : PS → Ty × PS) (σ : PS) : Ty × PS :=
  if σ.sees sCon = true then (.mk 2 0 (σ.take En sCon).1.s (atomTypesF En vs T (σ.take En sCon).2).1, (atomTypesF En vs T (σ.take En sCon).2).2)
  else atomTypeF En vs T σ
def typStep (En : Nat) (vs : List By) (T : PS → Ty × PS) (σ : PS) : Ty × PS :=
  if (leftTypeF En vs T σ).2.sees (sS tArrow) = true then (.mk 2 0 tArrow [(leftTypeF En vs T σ).1, (T (leftTypeF En vs T σ).2.tail).1], (T (leftTypeF En vs T σ).2.tail).2)
  else leftTypeF En vs T σ
def typF (En : Nat) (vs : List By) : Nat → PS → Ty × PS
  | 0 => fun σ => (Ty.zero, σ)
  | n + 1 => typStep En vs (typF En vs n)
def conF (En : Nat) (vs : List By) (n : Nat) (σ : PS) : Cn × PS :=
  (⟨(σ.take En sCon).1.s, ((σ.take En sCon).1.p : Int), (atomTypesF En vs (typF En vs n) (σ.take En sCon).2).1⟩, (atomTypesF En vs (typF En vs n) (σ.take En sCon).2).2)

def beg (s : Srt) : Nat :=
  if s = sName then 1 else if s = sCon then 2 else if s = sInt then 3 else if s = sW tTrue then 4 else if s = sW tFalse then 4
  else if s = sS tBack then 6 else if s = sW tLet then 7 else if s = sS tLpar then 8 else if s = sW tIf then 9 else if s = sW tCase then 10 else 0
def lams (p : Int) (names : List By) (body : Ex) : Ex := names.foldr (fun s b => Ex.mk 6 p s 0 [b] []) body
def leafE (k : Nat) (t : Tk) : Ex := if k = 4 then .mk 4 t.p [] (if t.s = tTrue then 1 else 0) [] [] else .mk k t.p t.s t.n [] []
def lamF (En : Nat) (X : PS → Ex × PS) (σ : PS) : Ex × PS :=
  let a := σ.take En (sS tBack)
  let b := a.2.take En sName
  let m := b.2.names
  let c := m.2.take En (sS tArrow)
  (lams a.1.p (b.1.s :: m.1) (X c.2).1, (X c.2).2)
def bindF (En : Nat) (X : PS → Ex × PS) (σ : PS) : Bd × PS :=
  let a := σ.take En sName
  let m := a.2.names
  let c := m.2.take En (sS tEq)
  (⟨a.1.s, a.1.p, lams a.1.p m.1 (X c.2).1⟩, (X c.2).2)
def letF (En : Nat) (X : PS → Ex × PS) (σ : PS) : Ex × PS :=
  let a := σ.take En (sW tLet)
  let b := bindF En X a.2
  let c := b.2.take En (sW tIn)
  (.mk 7 a.1.p b.1.s 0 [b.1.body, (X c.2).1] [], (X c.2).2)
def choiceF (En : Nat) (X : PS → Ex × PS) (σ : PS) : Ex × PS :=
  let a := σ.take En (sW tIf)
  let x := X a.2
  let b := x.2.take En (sW tThen)
  let y := X b.2
  let c := y.2.take En (sW tElse)
  let z := X c.2
  (.mk 9 a.1.p [] 0 [x.1, y.1, z.1] [], z.2)
def altF (En : Nat) (X : PS → Ex × PS) (σ : PS) : Al × PS :=
  let a := σ.take En sCon
  let m := a.2.names
  let c := m.2.take En (sS tArrow)
  (.mk a.1.p a.1.s m.1 (X c.2).1, (X c.2).2)
def casesF (En : Nat) (X : PS → Ex × PS) (σ : PS) : Ex × PS :=
  let a := σ.take En (sW tCase)
  let x := X a.2
  let b := x.2.take En (sW tOf)
  let c := b.2.take En (sS tLcur)
  let r := rowsF (sS tSemi) many (altF En X) c.2
  let d := r.2.take En (sS tRcur)
  (.mk 10 a.1.p [] 0 [x.1] r.1, d.2)
def tupEx (p : Int) (l : List Ex) : Ex := match l with
  | [x] => x
  | l => .mk 8 p [] 0 l []
def tupleF (En : Nat) (X : PS → Ex × PS) (σ : PS) : Ex × PS := (tupEx (bracketF En X σ).1.2 (bracketF En X σ).1.1, (bracketF En X σ).2)
def isLeaf (k : Nat) : Bool := decide (k = 1) || decide (k = 2) || decide (k = 3) || decide (k = 4)
def atomF (En : Nat) (X : PS → Ex × PS) (σ : PS) : Ex × PS :=
  if isLeaf (beg σ.next) = true then (leafE (beg σ.next) σ.head, σ.tail)
  else if beg σ.next = 8 then tupleF En X σ
  else (Ex.zero, σ.stop En)
def PS.seesAtom (σ : PS) : Bool := isLeaf (beg σ.next) || decide (beg σ.next = 8)
def appL (En : Nat) (X : PS → Ex × PS) : Nat → Ex → PS → Ex × PS
  | 0, e, σ => (e, σ)
  | f + 1, e, σ => if σ.seesAtom = true then appL En X f (.mk 5 e.at [] 0 [e, (atomF En X σ).1] []) (atomF En X σ).2 else (e, σ)
def appF (En : Nat) (X : PS → Ex × PS) (σ : PS) : Ex × PS := appL En X (atomF En X σ).2.ts.length (atomF En X σ).1 (atomF En X σ).2
def exprStep (En : Nat) (X : PS → Ex × PS) (σ : PS) : Ex × PS :=
  if beg σ.next = 6 then lamF En X σ
  else if beg σ.next = 7 then letF En X σ
  else if beg σ.next = 9 then choiceF En X σ
  else if beg σ.next = 10 then casesF En X σ
  else appF En X σ
def exprF (En : Nat) : Nat → PS → Ex × PS
  | 0 => fun σ => (Ex.zero, σ)
  | n + 1 => exprStep En (exprF En n)

def dataF (En n : Nat) (σ : PS) : Dt × PS :=
  let a := σ.take En (sW tData)
  let b := a.2.take En sCon
  let m := b.2.names
  let c := m.2.take En (sS tEq)
  let r := rowsF (sS tBar) many (conF En m.1 n) c.2
  let d := r.2.take En (sS tSemi)
  (⟨b.1.s, b.1.p, m.1, r.1⟩, d.2)
def topF (En n : Nat) (σ : PS) : Bd × PS :=
  let a := σ.take En (sW tLet)
  let b := bindF En (exprF En n) a.2
  (b.1, (b.2.take En (sS tSemi)).2)
def programL (En n : Nat) : Nat → Pg → PS → Pg × PS
  | 0, p, σ => (p, σ)
  | f + 1, p, σ => if σ.ts = [] then (p, σ)
    else if σ.sees (sW tData) = true then programL En n f ⟨p.datas ++ [(dataF En n σ).1], p.binds⟩ (dataF En n σ).2
    else programL En n f ⟨p.datas, p.binds ++ [(topF En n σ).1]⟩ (topF En n σ).2
def programF (En n : Nat) (σ : PS) : Pg × PS := programL En n σ.ts.length ⟨[], []⟩ σ

mutual
def Ty.deep : Ty → Nat
  | .mk _ _ _ kids => 1 + Ty.deeps kids
def Ty.deeps : List Ty → Nat
  | [] => 0
  | x :: r => max x.deep (Ty.deeps r)
end
mutual
def Ex.deep : Ex → Nat
  | .mk _ _ _ _ kids alts => 1 + max (Ex.deeps kids) (Al.deeps alts)
def Ex.deeps : List Ex → Nat
  | [] => 0
  | x :: r => max x.deep (Ex.deeps r)
def Al.deep : Al → Nat
  | .mk _ _ _ b => b.deep
def Al.deeps : List Al → Nat
  | [] => 0
  | x :: r => max x.deep (Al.deeps r)
end
def Cn.tooDeep (c : Cn) : Bool := c.args.any fun t => decide (60 < t.deep)
def tooDeepL (p : Pg) : List Int := (p.datas.flatMap fun d => (d.cons.filter Cn.tooDeep).map Cn.p) ++ (p.binds.filter fun b => decide (60 < b.body.deep)).map Bd.p
def minL : List Int → Int
  | [] => 0
  | x :: r => r.foldl min x

/-- Package parse's Parse: a program, or an error and where. -/
structure Out3 where
  p : Pg
  e : Nat
  at_ : Int
def parseTs (len : Nat) (ts : List Tk) : Out3 :=
  let r := programF len (ts.length + 1) ⟨ts, false, 0⟩
  if r.2.st = true then ⟨⟨[], []⟩, 4, r.2.at_⟩
  else if tooDeepL r.1 = [] then ⟨r.1, 0, 0⟩ else ⟨⟨[], []⟩, 5, minL (tooDeepL r.1)⟩
def parseL (s : By) : Out3 := match lexL s 0 with
  | Sum.inl i => ⟨⟨[], []⟩, 3, i⟩
  | Sum.inr ts => parseTs s.length ts

def Dec {A : Type} (X : PS → A × PS) : Prop := ∀ σ, (X σ).2.ts.length ≤ σ.ts.length
theorem tail_len (σ : PS) : σ.tail.ts.length = σ.ts.length - 1 := by simp [PS.tail]
theorem stop_len (En : Nat) (σ : PS) : (σ.stop En).ts.length ≤ σ.ts.length := by
  unfold PS.stop; split
  · exact Nat.le_refl _
  · simp
theorem take_len (En : Nat) (σ : PS) (s : Srt) : (σ.take En s).2.ts.length ≤ σ.ts.length := by
  unfold PS.take; split
  · rw [tail_len]; omega
  · exact stop_len En σ
theorem sees_pos {σ : PS} {s : Srt} (h : σ.sees s = true) (hs : s.k ≠ 0) : 0 < σ.ts.length := by
  unfold PS.sees PS.next at h
  cases e : σ.ts with
  | nil => rw [e] at h; simp at h; subst h; exact absurd rfl hs
  | cons t r => simp
theorem take_lt {En : Nat} {σ : PS} {s : Srt} (h : σ.sees s = true) (hs : s.k ≠ 0) : (σ.take En s).2.ts.length < σ.ts.length := by
  have := sees_pos h hs
  unfold PS.take; rw [if_pos h]
  show σ.tail.ts.length < _
  rw [tail_len]; omega
theorem namesL_len : ∀ l : List Tk, (namesL l).2.length ≤ l.length
  | [] => by simp [namesL]
  | t :: r => by
    unfold namesL; split
    · have := namesL_len r; simp; omega
    · simp
theorem names_len (σ : PS) : σ.names.2.ts.length ≤ σ.ts.length := namesL_len σ.ts
theorem rowsL_len {A : Type} {sep : Srt} {most : Nat} {one : PS → A × PS} (h : Dec one) : ∀ (f : Nat) (l : List A) (σ : PS), (rowsL sep most one f l σ).2.ts.length ≤ σ.ts.length
  | 0, l, σ => Nat.le_refl _
  | f + 1, l, σ => by
    unfold rowsL; split
    · have h1 := rowsL_len (sep := sep) (most := most) h f (l ++ [(one σ.tail).1]) (one σ.tail).2
      have h2 := h σ.tail
      rw [tail_len] at h2; omega
    · exact Nat.le_refl _
theorem rowsF_len {A : Type} {sep : Srt} {most : Nat} {one : PS → A × PS} (h : Dec one) (σ : PS) : (rowsF sep most one σ).2.ts.length ≤ σ.ts.length :=
  Nat.le_trans (rowsL_len h _ _ _) (h σ)
theorem bracketF_len {A : Type} {En : Nat} {one : PS → A × PS} (h : Dec one) (σ : PS) : (bracketF En one σ).2.ts.length ≤ σ.ts.length :=
  Nat.le_trans (take_len En _ _) (Nat.le_trans (rowsF_len h _) (take_len En _ _))
theorem atomTypeF_len {En : Nat} {vs : List By} {T : PS → Ty × PS} (h : Dec T) (σ : PS) : (atomTypeF En vs T σ).2.ts.length ≤ σ.ts.length := by
  unfold atomTypeF
  split
  · exact take_len En _ _
  · split
    · exact take_len En _ _
    · split
      · exact bracketF_len h σ
      · exact stop_len En σ
theorem atomTypeF_lt {En : Nat} {vs : List By} {T : PS → Ty × PS} (h : Dec T) {σ : PS} (hs : σ.seesType = true) : (atomTypeF En vs T σ).2.ts.length < σ.ts.length := by
  unfold atomTypeF
  split
  · rename_i h1; exact take_lt h1 (by decide)
  · split
    · rename_i h1; exact take_lt h1 (by decide)
    · split
      · rename_i h1
        exact Nat.lt_of_le_of_lt (Nat.le_trans (take_len En _ _) (rowsF_len h _)) (take_lt h1 (by decide))
      · rename_i h1 h2 h3
        simp [PS.seesType, h1, h2, h3] at hs
theorem atomTypesL_len {En : Nat} {vs : List By} {T : PS → Ty × PS} (h : Dec T) : ∀ (f : Nat) (l : List Ty) (σ : PS), (atomTypesL En vs T f l σ).2.ts.length ≤ σ.ts.length
  | 0, l, σ => Nat.le_refl _
  | f + 1, l, σ => by
    unfold atomTypesL; split
    · exact Nat.le_trans (atomTypesL_len h f _ _) (atomTypeF_len h σ)
    · exact Nat.le_refl _
theorem leftTypeF_len {En : Nat} {vs : List By} {T : PS → Ty × PS} (h : Dec T) (σ : PS) : (leftTypeF En vs T σ).2.ts.length ≤ σ.ts.length := by
  unfold leftTypeF; split
  · exact Nat.le_trans (atomTypesL_len h _ _ _) (take_len En _ _)
  · exact atomTypeF_len h σ
theorem typF_len (En : Nat) (vs : List By) : ∀ n, Dec (typF En vs n)
  | 0 => fun σ => Nat.le_refl _
  | n + 1 => fun σ => by
    show (typStep En vs (typF En vs n) σ).2.ts.length ≤ _
    unfold typStep
    have h1 := leftTypeF_len (En := En) (vs := vs) (typF_len En vs n) σ
    split
    · refine Nat.le_trans (typF_len En vs n _) ?_
      rw [tail_len]; omega
    · exact h1
theorem conF_len (En : Nat) (vs : List By) (n : Nat) : Dec (conF En vs n) := fun σ =>
  Nat.le_trans (atomTypesL_len (typF_len En vs n) _ _ _) (take_len En _ _)
theorem beg_pos {σ : PS} (h : beg σ.next ≠ 0) : 0 < σ.ts.length := by
  cases e : σ.ts with
  | nil => exfalso; apply h; unfold PS.next; rw [e]; decide
  | cons t r => simp
theorem beg_sees {s : Srt} {k : Nat} (h : beg s = k) : (k = 6 → s = sS tBack) ∧ (k = 7 → s = sW tLet) ∧ (k = 8 → s = sS tLpar) ∧ (k = 9 → s = sW tIf) ∧ (k = 10 → s = sW tCase) := by
  unfold beg at h
  repeat' split at h
  all_goals (subst h; simp_all)
theorem sees_of {σ : PS} {s : Srt} (h : σ.next = s) : σ.sees s = true := decide_eq_true h
section
variable {En : Nat} {X : PS → Ex × PS} (h : Dec X)
include h
theorem lamF_len (σ : PS) : (lamF En X σ).2.ts.length ≤ (σ.take En (sS tBack)).2.ts.length :=
  Nat.le_trans (h _) (Nat.le_trans (take_len En _ _) (Nat.le_trans (names_len _) (take_len En _ _)))
theorem bindF_len (σ : PS) : (bindF En X σ).2.ts.length ≤ σ.ts.length :=
  Nat.le_trans (h _) (Nat.le_trans (take_len En _ _) (Nat.le_trans (names_len _) (take_len En _ _)))
theorem letF_len (σ : PS) : (letF En X σ).2.ts.length ≤ (σ.take En (sW tLet)).2.ts.length :=
  Nat.le_trans (h _) (Nat.le_trans (take_len En _ _) (bindF_len h _))
theorem choiceF_len (σ : PS) : (choiceF En X σ).2.ts.length ≤ (σ.take En (sW tIf)).2.ts.length :=
  Nat.le_trans (h _) (Nat.le_trans (take_len En _ _) (Nat.le_trans (h _) (Nat.le_trans (take_len En _ _) (h _))))
theorem altF_len : Dec (altF En X) := fun σ =>
  Nat.le_trans (h _) (Nat.le_trans (take_len En _ _) (Nat.le_trans (names_len _) (take_len En _ _)))
theorem casesF_len (σ : PS) : (casesF En X σ).2.ts.length ≤ (σ.take En (sW tCase)).2.ts.length :=
  Nat.le_trans (take_len En _ _) (Nat.le_trans (rowsF_len (altF_len h) _) (Nat.le_trans (take_len En _ _) (Nat.le_trans (take_len En _ _) (h _))))
theorem tupleF_len (σ : PS) : (tupleF En X σ).2.ts.length ≤ (σ.take En (sS tLpar)).2.ts.length :=
  Nat.le_trans (take_len En _ _) (rowsF_len h _)
theorem atomF_len (σ : PS) : (atomF En X σ).2.ts.length ≤ σ.ts.length := by
  unfold atomF; split
  · rw [tail_len]; omega
  · split
    · exact Nat.le_trans (tupleF_len h σ) (take_len En _ _)
    · exact stop_len En σ
theorem atomF_lt {σ : PS} (hs : σ.seesAtom = true) : (atomF En X σ).2.ts.length < σ.ts.length := by
  unfold atomF; split
  · rename_i h1
    have h2 : 0 < σ.ts.length := beg_pos (fun e => by rw [e] at h1; exact absurd h1 (by decide))
    rw [tail_len]; omega
  · split
    · rename_i h1 h2
      exact Nat.lt_of_le_of_lt (tupleF_len h σ) (take_lt (sees_of ((beg_sees h2).2.2.1 rfl)) (by decide))
    · rename_i h1 h2
      simp [PS.seesAtom, h1, h2] at hs
theorem appL_len : ∀ (f : Nat) (e : Ex) (σ : PS), (appL En X f e σ).2.ts.length ≤ σ.ts.length
  | 0, e, σ => Nat.le_refl _
  | f + 1, e, σ => by
    unfold appL; split
    · exact Nat.le_trans (appL_len f _ _) (atomF_len h σ)
    · exact Nat.le_refl _
theorem appF_len (σ : PS) : (appF En X σ).2.ts.length ≤ σ.ts.length := Nat.le_trans (appL_len h _ _ _) (atomF_len h σ)
theorem exprStep_len : Dec (exprStep En X) := fun σ => by
  unfold exprStep; split
  · exact Nat.le_trans (lamF_len h σ) (take_len En _ _)
  · split
    · exact Nat.le_trans (letF_len h σ) (take_len En _ _)
    · split
      · exact Nat.le_trans (choiceF_len h σ) (take_len En _ _)
      · split
        · exact Nat.le_trans (casesF_len h σ) (take_len En _ _)
        · exact appF_len h σ
end
theorem exprF_len (En : Nat) : ∀ n, Dec (exprF En n)
  | 0 => fun σ => Nat.le_refl _
  | n + 1 => exprStep_len (exprF_len En n)
theorem stop_lt {En : Nat} {σ : PS} (h : σ.st = true → σ.ts = []) : (σ.stop En).ts = [] := by
  unfold PS.stop; split
  · rename_i e; exact h e
  · rfl

end Go.Proofs.Ytgkeblpjmfdhkaa

namespace Go.Proofs.Ytgkeblpjmfdhkaa
open Go.RowKit Go.Maps
set_option linter.unusedVariables false
set_option linter.unusedSimpArgs false

theorem ownsMap_agree {w w' : World} {P : Program} {k : TypeId} {R : Value → Option (DataW Unit × List MemPlace)} {b n : Nat} {D : DataW Unit} (h : w.ownsMap P k R b n D) (hb : w'.heap[b]? = w.heap[b]?) : w'.ownsMap P k R b n D := by
  obtain ⟨es, clock, h1, r⟩ := h
  exact ⟨es, clock, hb.trans h1, r⟩
theorem ownsMap_lt {w : World} {P : Program} {k : TypeId} {R : Value → Option (DataW Unit × List MemPlace)} {b n : Nat} {D : DataW Unit} (h : w.ownsMap P k R b n D) : b < w.heap.size := by
  obtain ⟨es, clock, h1, r⟩ := h
  exact (Array.getElem?_eq_some_iff.1 h1).1

section
variable {P : Program} {w : World} {ops : Array Oper} {o : Oper} {a : Act} {K : Act → World → Prop} {Q : Exit → Act → World → Prop} {E : Prop}
end
theorem look_plain {P : Program} {w : World} {t k e : TypeId} {q : IntKind} (KK : Keyed P k) (ht : P.underlying t = some (.map k e)) (he : P.underlying e = some (.int q)) (hz : (zeroValue e).run P w = .ok (.int q 0) w) {b n : Nat} {D : DataW Unit}
    (hown : w.ownsMap P k (plainElem P e) b n D) {key : Value} {kl : Lit} (hkey : keyOf P k key = some kl) {c : Int} (hc : D.atKey kl (.lit (.int q 0)) = .lit (.int q c)) :
    Sem.run P (Instr.lookup t (.map (some b)) key false) w = .ok (.int q c) w := by
  obtain ⟨c', hrun, hat, _⟩ := hown.lookup_int KK ht he hz hkey
  rw [hc] at hat
  have e2 : c = c' := by cases hat; rfl
  subst e2
  exact hrun

end Go.Proofs.Ytgkeblpjmfdhkaa

namespace Go.Proofs.Ytgkeblpjmfdhkaa
open Go.RowKit
set_option linter.unusedVariables false
set_option linter.unusedSimpArgs false

/-- A cell's content: a value, or n things of k cells each behind a slice. -/
inductive Cl where
  | v (x : Value) : Cl
  | s (n k : Nat) (l : List Cl) : Cl
/-- A cell's value says that content, in blocks of S alone. -/
inductive InC (S : Nat → Prop) (w : World) : Cl → Value → Prop where
  | v (x : Value) : InC S w (.v x) x
  | e (k : Nat) (a : Option Addr) (cp : Nat) : InC S w (.s 0 k []) (.slice a 0 cp)
  | s (n k : Nat) (l : List Cl) (b off cp : Nat) (us : List Value) (hS : S b) (hb : b < w.heap.size) (hl : l.length = n * k) (hu : us.length = l.length) (hn : n ≠ 0) (hcp : n ≤ cp) (hcm : cp ≤ maxLen)
      (hc : ∀ (i : Nat) (u : Value), us[i]? = some u → w.cell? ⟨b, off + i, none⟩ = some u)
      (hi : ∀ (i : Nat) (c : Cl) (u : Value), l[i]? = some c → us[i]? = some u → InC S w c u) : InC S w (.s n k l) (.slice (some ⟨b, off, none⟩) n cp)
/-- Values in a row say these cells. -/
def InS (S : Nat → Prop) (w : World) (cs : List Cl) (us : List Value) : Prop := us.length = cs.length ∧ ∀ (i : Nat) (c : Cl) (u : Value), cs[i]? = some c → us[i]? = some u → InC S w c u
section
variable {S S' : Nat → Prop} {w w' : World}
theorem InC.agree {c : Cl} {u : Value} (h : InC S w c u) (hs : ∀ b, S b → b < w.heap.size → S' b ∧ w'.heap[b]? = w.heap[b]?) (hz : w.heap.size ≤ w'.heap.size) : InC S' w' c u := by
  induction h with
  | v x => exact .v x
  | e k a cp => exact .e k a cp
  | s n k l b off cp us hS hb hl hu hn hcp hcm hc hi ih =>
    exact .s n k l b off cp us (hs b hS hb).1 (Nat.lt_of_lt_of_le hb hz) hl hu hn hcp hcm (fun i u hiu => (World.cell?_of_block (hs b hS hb).2).trans (hc i u hiu)) (fun i c u h1 h2 => ih i c u h1 h2)
theorem InC.mono {c : Cl} {u : Value} (h : InC S w c u) (hs : ∀ b, b < w.heap.size → S b → S' b) : InC S' w c u := h.agree (fun b h1 h2 => ⟨hs b h2 h1, rfl⟩) (Nat.le_refl _)
theorem InC.out {T : Nat → Prop} {c : Cl} {u : Value} (h : InC S w c u) (ho : Out T w w') (hn : ∀ b, b < w.heap.size → S b → ¬ T b) : InC S w' c u := h.agree (fun b h1 h2 => ⟨h1, ho.block b h2 (hn b h2 h1)⟩) ho.size
theorem InC.under {c : Cl} {u : Value} (h : InC S w c u) (hb : Below w.heap.size w w') : InC S w' c u := h.agree (fun b h1 h2 => ⟨h1, hb.block b h2⟩) hb.size
theorem InC.alloc {c : Cl} {u : Value} (h : InC S w c u) (o : Obj) : InC S (w.alloc o) c u := h.under ((Below.refl _ w).alloc (Nat.le_refl _) o)
theorem InC.drew {c : Cl} {u : Value} (h : InC S w c u) : InC S w.drew c u := h.agree (fun b h1 h2 => ⟨h1, rfl⟩) (Nat.le_refl _)
theorem InC.set {c : Cl} {u : Value} (h : InC S w c u) {p : Addr} (hp : p.block < w.heap.size → ¬ S p.block) (x : Value) : InC S (w.setCell p x) c u :=
  h.agree (fun b h1 h2 => ⟨h1, Below.heap_setCell w p x b (fun e => hp (e ▸ h2) (e ▸ h1))⟩) (by simp)
theorem InC.slice {n k : Nat} {l : List Cl} {u : Value} (h : InC S w (.s n k l) u) : ∃ a cp, u = .slice a n cp ∧ n ≤ cp ∧ l.length = n * k := by
  cases h with
  | e k a cp => exact ⟨a, cp, rfl, Nat.zero_le _, by simp⟩
  | s n k l b off cp us hS hb hl hu hn hcp hcm hc hi => exact ⟨_, cp, rfl, hcp, hl⟩
theorem InC.max_len {n k : Nat} {l : List Cl} {u : Value} (h : InC S w (.s n k l) u) : n ≤ 9223372036854775807 := by
  cases h with
  | e k a cp => exact Nat.zero_le _
  | s n k l b off cp us hS hb hl hu hn hcp hcm hc hi => exact Nat.le_trans hcp hcm
theorem InC.val {x u : Value} (h : InC S w (.v x) u) : u = x := by cases h; rfl
theorem InS.agree {cs : List Cl} {us : List Value} (h : InS S w cs us) (hs : ∀ b, S b → b < w.heap.size → S' b ∧ w'.heap[b]? = w.heap[b]?) (hz : w.heap.size ≤ w'.heap.size) : InS S' w' cs us := ⟨h.1, fun i c u h1 h2 => (h.2 i c u h1 h2).agree hs hz⟩
theorem InS.mono {cs : List Cl} {us : List Value} (h : InS S w cs us) (hs : ∀ b, b < w.heap.size → S b → S' b) : InS S' w cs us := ⟨h.1, fun i c u h1 h2 => (h.2 i c u h1 h2).mono hs⟩
theorem InS.out {T : Nat → Prop} {cs : List Cl} {us : List Value} (h : InS S w cs us) (ho : Out T w w') (hn : ∀ b, b < w.heap.size → S b → ¬ T b) : InS S w' cs us := ⟨h.1, fun i c u h1 h2 => (h.2 i c u h1 h2).out ho hn⟩
theorem InS.under {cs : List Cl} {us : List Value} (h : InS S w cs us) (hb : Below w.heap.size w w') : InS S w' cs us := ⟨h.1, fun i c u h1 h2 => (h.2 i c u h1 h2).under hb⟩
theorem InS.drew {cs : List Cl} {us : List Value} (h : InS S w cs us) : InS S w.drew cs us := ⟨h.1, fun i c u h1 h2 => (h.2 i c u h1 h2).drew⟩
theorem InS.set {cs : List Cl} {us : List Value} (h : InS S w cs us) {p : Addr} (hp : p.block < w.heap.size → ¬ S p.block) (x : Value) : InS S (w.setCell p x) cs us := ⟨h.1, fun i c u h1 h2 => (h.2 i c u h1 h2).set hp x⟩
theorem InS.nil : InS S w [] [] := ⟨rfl, fun i c u h => by simp at h⟩
theorem InS.app {cs ds : List Cl} {us vs : List Value} (h : InS S w cs us) (k : InS S w ds vs) : InS S w (cs ++ ds) (us ++ vs) := by
  refine ⟨by rw [List.length_append, List.length_append, h.1, k.1], fun i c u h1 h2 => ?_⟩
  by_cases hi : i < cs.length
  · rw [List.getElem?_append_left hi] at h1
    rw [List.getElem?_append_left (by rw [h.1]; exact hi)] at h2
    exact h.2 i c u h1 h2
  · rw [List.getElem?_append_right (by omega)] at h1
    rw [List.getElem?_append_right (by rw [h.1]; omega), h.1] at h2
    exact k.2 _ c u h1 h2
theorem InS.cons {c : Cl} {u : Value} {cs : List Cl} {us : List Value} (h : InC S w c u) (k : InS S w cs us) : InS S w (c :: cs) (u :: us) := by
  refine ⟨by simp [k.1], fun i c' u' h1 h2 => ?_⟩
  cases i with
  | zero => simp at h1 h2; subst h1; subst h2; exact h
  | succ i => exact k.2 i c' u' (by simpa using h1) (by simpa using h2)
theorem InS.head {c : Cl} {u : Value} {cs : List Cl} {us : List Value} (h : InS S w (c :: cs) (u :: us)) : InC S w c u := h.2 0 c u rfl rfl
theorem InS.tail {c : Cl} {u : Value} {cs : List Cl} {us : List Value} (h : InS S w (c :: cs) (u :: us)) : InS S w cs us := ⟨by simpa using h.1, fun i c' u' h1 h2 => h.2 (i + 1) c' u' (by simpa using h1) (by simpa using h2)⟩
/-- A row that a call owns says its cells. -/
theorem InC.of_owns {base e n k : Nat} {v : Value} {us : List Value} {cs : List Cl} (h : w.ownsRow base e k v n us) (hc : InS S w cs us) (hS : ∀ b, v.ownBlock = some b → S b) (hl : cs.length = n * k) : InC S w (.s n k cs) v := by
  obtain ⟨hun, ⟨rfl, h0⟩ | ⟨g, cap, cur, rfl, hb, hg, hcap, hn, hsz, ht⟩⟩ := h
  · subst h0
    have : cs = [] := List.eq_nil_of_length_eq_zero (by simpa using hl)
    subst this; exact .e _ _ _
  · by_cases hn0 : n = 0
    · subst hn0
      have : cs = [] := List.eq_nil_of_length_eq_zero (by simpa using hl)
      subst this; exact .e _ _ _
    · refine .s n k cs g 0 cap us (hS g rfl) (Array.getElem?_eq_some_iff.1 hg).1 hl hc.1 hn0 hcap hn (fun i u hi => ?_) hc.2
      rw [Nat.zero_add, cell_of_row w g i cur e (0, 0) hg]
      rw [← ht, List.getElem?_take] at hi
      split at hi
      · simpa using hi
      · cases hi
/-- A block that was just made says its cells. -/
theorem InC.of_new {n k : Nat} {us : List Value} {cs : List Cl} {t : TypeId} (hc : InS S w cs us) (hS : S w.heap.size) (hl : cs.length = n * k) (hn : n ≠ 0) (hm : n ≤ maxLen := by decide) : InC S (w.alloc (.cells us.toArray t)) (.s n k cs) (.slice (some ⟨w.heap.size, 0, none⟩) n n) := by
  refine .s n k cs w.heap.size 0 n us hS (by simp) hl hc.1 hn (Nat.le_refl _) hm (fun i u hi => ?_) (fun i c u h1 h2 => (hc.2 i c u h1 h2).alloc _)
  rw [Nat.zero_add, (Box.new w t us).cell i]; exact hi
/-- What a cell's content lies in. -/
theorem InC.at_ {n k : Nat} {l : List Cl} {a : Option Addr} {m cp : Nat} (h : InC S w (.s n k l) (.slice a m cp)) : m = n ∧ (n = 0 ∨ ∃ b off us, a = some ⟨b, off, none⟩ ∧ S b ∧ b < w.heap.size ∧ InS S w l us ∧ ∀ (i : Nat) (u : Value), us[i]? = some u → w.cell? ⟨b, off + i, none⟩ = some u) := by
  cases h with
  | e k a cp => exact ⟨rfl, .inl rfl⟩
  | s n k l b off cp us hS hb hl hu hn hcp hcm hc hi => exact ⟨rfl, .inr ⟨b, off, us, rfl, hS, hb, ⟨hu, hi⟩, hc⟩⟩
end

def iC (x : Int) : Cl := .v (.int .i64 x)
def bC (s : By) : Cl := .v (.string (strB s))
def strsC (l : List By) : List Cl := l.map bC
mutual
def tyC : Ty → List Cl
  | .mk k n s kids => [iC k, iC n, bC s, .s kids.length 4 (tysC kids)]
def tysC : List Ty → List Cl
  | [] => []
  | x :: r => tyC x ++ tysC r
end
mutual
def exC : Ex → List Cl
  | .mk k p s n kids alts => [iC k, iC p, bC s, iC n, .s kids.length 6 (exsC kids), .s alts.length 9 (alsC alts)]
def exsC : List Ex → List Cl
  | [] => []
  | x :: r => exC x ++ exsC r
def alC : Al → List Cl
  | .mk p s names b => iC p :: bC s :: .s names.length 1 (strsC names) :: exC b
def alsC : List Al → List Cl
  | [] => []
  | x :: r => alC x ++ alsC r
end
def cnC (c : Cn) : List Cl := [bC c.s, iC c.p, .s c.args.length 4 (tysC c.args)]
def dtC (d : Dt) : List Cl := [bC d.s, iC d.p, .s d.vars.length 1 (strsC d.vars), .s d.cons.length 3 (d.cons.flatMap cnC)]
def bdC (b : Bd) : List Cl := bC b.s :: iC b.p :: exC b.body
def pgC (p : Pg) : List Cl := [.s p.datas.length 4 (p.datas.flatMap dtC), .s p.binds.length 8 (p.binds.flatMap bdC)]
theorem tyC_len : ∀ t : Ty, (tyC t).length = 4
  | .mk _ _ _ _ => by simp [tyC]
theorem exC_len : ∀ t : Ex, (exC t).length = 6
  | .mk _ _ _ _ _ _ => by simp [exC]
theorem alC_len : ∀ t : Al, (alC t).length = 9
  | .mk _ _ _ b => by simp [alC, exC_len]
theorem cnC_len (c : Cn) : (cnC c).length = 3 := rfl
theorem dtC_len (c : Dt) : (dtC c).length = 4 := rfl
theorem bdC_len (c : Bd) : (bdC c).length = 8 := by simp [bdC, exC_len]
theorem tysC_eq : ∀ l : List Ty, tysC l = l.flatMap tyC
  | [] => by simp [tysC]
  | x :: r => by simp [tysC, tysC_eq r]
theorem exsC_eq : ∀ l : List Ex, exsC l = l.flatMap exC
  | [] => by simp [exsC]
  | x :: r => by simp [exsC, exsC_eq r]
theorem alsC_eq : ∀ l : List Al, alsC l = l.flatMap alC
  | [] => by simp [alsC]
  | x :: r => by simp [alsC, alsC_eq r]
theorem flatC_len {α : Type} {k : Nat} {f : α → List Cl} (hk : ∀ x, (f x).length = k) : ∀ (l : List α), (l.flatMap f).length = l.length * k
  | [] => by simp
  | q :: r => by rw [List.flatMap_cons, List.length_append, hk, flatC_len hk r, List.length_cons, Nat.add_mul]; omega
theorem strsC_len (l : List By) : (strsC l).length = l.length * 1 := by simp [strsC]

/-- A struct's value says these cells. -/
def IsV (S : Nat → Prop) (w : World) (cs : List Cl) (v : Value) : Prop := ∃ us : List Value, v = .agg us.toArray ∧ InS S w cs us
theorem three_cons {us : List Value} {n : Nat} (h : us.length = n + 1) : ∃ a r, us = a :: r ∧ r.length = n := by
  cases us with
  | nil => simp at h
  | cons a r => exact ⟨a, r, rfl, by simpa using h⟩
section
variable {S S' : Nat → Prop} {w w' : World} {v : Value} {cs : List Cl}
theorem IsV.agree (h : IsV S w cs v) (hs : ∀ b, S b → b < w.heap.size → S' b ∧ w'.heap[b]? = w.heap[b]?) (hz : w.heap.size ≤ w'.heap.size) : IsV S' w' cs v := by
  obtain ⟨us, rfl, h1⟩ := h; exact ⟨us, rfl, h1.agree hs hz⟩
theorem IsV.mono (h : IsV S w cs v) (hs : ∀ b, b < w.heap.size → S b → S' b) : IsV S' w cs v := by
  obtain ⟨us, rfl, h1⟩ := h; exact ⟨us, rfl, h1.mono hs⟩
theorem IsV.out {T : Nat → Prop} (h : IsV S w cs v) (ho : Out T w w') (hn : ∀ b, b < w.heap.size → S b → ¬ T b) : IsV S w' cs v := by
  obtain ⟨us, rfl, h1⟩ := h; exact ⟨us, rfl, h1.out ho hn⟩
theorem IsV.under (h : IsV S w cs v) (hb : Below w.heap.size w w') : IsV S w' cs v := by
  obtain ⟨us, rfl, h1⟩ := h; exact ⟨us, rfl, h1.under hb⟩
theorem IsV.cells (h : IsV S w cs v) : InS S w cs v.cells.toList := by
  obtain ⟨us, rfl, h1⟩ := h; simpa [Value.cells] using h1
theorem IsV.ty {k n : Int} {s : By} {kids : List Ty} (h : IsV S w (tyC (.mk k n s kids)) v) : ∃ a cp, v = .agg #[.int .i64 k, .int .i64 n, .string (strB s), .slice a kids.length cp] ∧ InC S w (.s kids.length 4 (tysC kids)) (.slice a kids.length cp) := by
  obtain ⟨us, rfl, h⟩ := h
  unfold tyC at h
  obtain ⟨u0, r0, rfl, l0⟩ := three_cons (n := 3) h.1
  obtain ⟨u1, r1, rfl, l1⟩ := three_cons (n := 2) l0
  obtain ⟨u2, r2, rfl, l2⟩ := three_cons (n := 1) l1
  obtain ⟨u3, r3, rfl, l3⟩ := three_cons (n := 0) l2
  obtain rfl := List.eq_nil_of_length_eq_zero l3
  obtain rfl := h.head.val
  obtain rfl := h.tail.head.val
  obtain rfl := h.tail.tail.head.val
  obtain ⟨a, cp, rfl, _, _⟩ := h.tail.tail.tail.head.slice
  exact ⟨a, cp, rfl, h.tail.tail.tail.head⟩
theorem IsV.of_ty {k n : Int} {s : By} {kids : List Ty} {a : Value} (h : InC S w (.s kids.length 4 (tysC kids)) a) : IsV S w (tyC (.mk k n s kids)) (.agg #[.int .i64 k, .int .i64 n, .string (strB s), a]) :=
  ⟨[_, _, _, _], rfl, by unfold tyC; exact InS.cons (.v _) (InS.cons (.v _) (InS.cons (.v _) (InS.cons h InS.nil)))⟩
theorem IsV.ex {k p n : Int} {s : By} {kids : List Ex} {alts : List Al} (h : IsV S w (exC (.mk k p s n kids alts)) v) : ∃ a cp a' cp', v = .agg #[.int .i64 k, .int .i64 p, .string (strB s), .int .i64 n, .slice a kids.length cp, .slice a' alts.length cp'] ∧ InC S w (.s kids.length 6 (exsC kids)) (.slice a kids.length cp) ∧ InC S w (.s alts.length 9 (alsC alts)) (.slice a' alts.length cp') := by
  obtain ⟨us, rfl, h⟩ := h
  unfold exC at h
  obtain ⟨u0, r0, rfl, l0⟩ := three_cons (n := 5) h.1
  obtain ⟨u1, r1, rfl, l1⟩ := three_cons (n := 4) l0
  obtain ⟨u2, r2, rfl, l2⟩ := three_cons (n := 3) l1
  obtain ⟨u3, r3, rfl, l3⟩ := three_cons (n := 2) l2
  obtain ⟨u4, r4, rfl, l4⟩ := three_cons (n := 1) l3
  obtain ⟨u5, r5, rfl, l5⟩ := three_cons (n := 0) l4
  obtain rfl := List.eq_nil_of_length_eq_zero l5
  obtain rfl := h.head.val
  obtain rfl := h.tail.head.val
  obtain rfl := h.tail.tail.head.val
  obtain rfl := h.tail.tail.tail.head.val
  obtain ⟨a, cp, rfl, _, _⟩ := h.tail.tail.tail.tail.head.slice
  obtain ⟨a', cp', rfl, _, _⟩ := h.tail.tail.tail.tail.tail.head.slice
  exact ⟨a, cp, a', cp', rfl, h.tail.tail.tail.tail.head, h.tail.tail.tail.tail.tail.head⟩
theorem IsV.of_ex {k p n : Int} {s : By} {kids : List Ex} {alts : List Al} {a b : Value} (h : InC S w (.s kids.length 6 (exsC kids)) a) (h' : InC S w (.s alts.length 9 (alsC alts)) b) : IsV S w (exC (.mk k p s n kids alts)) (.agg #[.int .i64 k, .int .i64 p, .string (strB s), .int .i64 n, a, b]) :=
  ⟨[_, _, _, _, _, _], rfl, by unfold exC; exact InS.cons (.v _) (InS.cons (.v _) (InS.cons (.v _) (InS.cons (.v _) (InS.cons h (InS.cons h' InS.nil)))))⟩
/-- An expression, whatever it is. -/
theorem IsV.exs {x : Ex} (h : IsV S w (exC x) v) : ∃ (k p n : Int) (s : By) (a a' : Option Addr) (m m' cp cp' : Nat), v = .agg #[.int .i64 k, .int .i64 p, .string (strB s), .int .i64 n, .slice a m cp, .slice a' m' cp'] ∧ x.at = p := by
  cases x with
  | mk k p s n kids alts =>
    obtain ⟨a, cp, a', cp', rfl, _⟩ := h.ex
    exact ⟨k, p, n, s, a, a', _, _, cp, cp', rfl, rfl⟩
theorem IsV.tys {x : Ty} (h : IsV S w (tyC x) v) : ∃ (k n : Int) (s : By) (a : Option Addr) (m cp : Nat), v = .agg #[.int .i64 k, .int .i64 n, .string (strB s), .slice a m cp] := by
  cases x with
  | mk k n s kids =>
    obtain ⟨a, cp, rfl, _⟩ := h.ty
    exact ⟨k, n, s, a, _, cp, rfl⟩
end
theorem zero_ex (S : Nat → Prop) (w : World) : IsV S w (exC Ex.zero) (.agg #[.int .i64 0, .int .i64 0, .string ⟨#[]⟩, .int .i64 0, .slice none 0 0, .slice none 0 0]) := IsV.of_ex (.e _ _ _) (.e _ _ _)
theorem zero_ty (S : Nat → Prop) (w : World) : IsV S w (tyC Ty.zero) (.agg #[.int .i64 0, .int .i64 0, .string ⟨#[]⟩, .slice none 0 0]) := IsV.of_ty (.e _ _ _)
/-- Blocks that are new in w. -/
def New (w : World) : Nat → Prop := fun b => w.heap.size ≤ b

end Go.Proofs.Ytgkeblpjmfdhkaa

namespace Go.Proofs.Ytgkeblpjmfdhkaa
open Go.RowKit Go.Maps
open Go.WideMaps (KeyLaw)
set_option linter.unusedVariables false
set_option linter.unusedSimpArgs false

def tkV (t : Tk) : Value := .agg #[.int .i64 (t.k : Int), .int .i64 (t.p : Int), .string (strB t.s), .int .i64 (t.n : Int)]
def Srt.fit (s : Srt) : Prop := s.k ≤ 10 ∧ s.s.length ≤ 1000000
theorem strB_inj {a b : By} (h : strB a = strB b) : a = b := by
  have := congrArg (fun s : ByteArray => s.data.toList) h
  simpa [strB] using this
theorem Try.sortLaid : laidOutB Try.prog = true := by kernel_rfl
theorem Try.zzeroInt (w : World) : (zeroValue 3).run Try.prog w = .ok (.int .i64 0) w := by kernel_rfl
theorem TR.agreeR {hi n : Nat} {w w' : World} {a : Option Addr} {ts : List Tk} (h : TR hi w a n ts) (hb : ∀ b, b < hi → w'.heap[b]? = w.heap[b]?) : TR hi w' a n ts := by
  obtain ⟨h1, h2 | ⟨b, off, rfl, hl, hc⟩⟩ := h
  · exact ⟨h1, .inl h2⟩
  · refine ⟨h1, .inr ⟨b, off, rfl, hl, fun i t ht => ?_⟩⟩
    obtain ⟨c0, c1, c2, c3⟩ := hc i t ht
    have e : ∀ o, w'.cell? ⟨b, o, none⟩ = w.cell? ⟨b, o, none⟩ := fun o => World.cell?_of_block (hb b hl)
    exact ⟨(e _).trans c0, (e _).trans c1, (e _).trans c2, (e _).trans c3⟩
theorem six_cells {w : World} {b : Nat} {t : TypeId} {c0 c1 c2 c3 c4 c5 : Value} (h : Box w b t [c0, c1, c2, c3, c4, c5]) : w.cell? ⟨b, 0, none⟩ = some c0 ∧ w.cell? ⟨b, 1, none⟩ = some c1 ∧ w.cell? ⟨b, 2, none⟩ = some c2 ∧ w.cell? ⟨b, 3, none⟩ = some c3 ∧ w.cell? ⟨b, 4, none⟩ = some c4 ∧ w.cell? ⟨b, 5, none⟩ = some c5 :=
  ⟨h.cell 0, h.cell 1, h.cell 2, h.cell 3, h.cell 4, h.cell 5⟩
theorem six_frozen {w : World} {b : Nat} {t : TypeId} {c0 c1 c2 c3 c4 c5 : Value} (h : Box w b t [c0, c1, c2, c3, c4, c5]) : w.frozen? ⟨b, 0, none⟩ = false ∧ w.frozen? ⟨b, 1, none⟩ = false ∧ w.frozen? ⟨b, 2, none⟩ = false ∧ w.frozen? ⟨b, 3, none⟩ = false ∧ w.frozen? ⟨b, 4, none⟩ = false ∧ w.frozen? ⟨b, 5, none⟩ = false :=
  ⟨h.frozen 0, h.frozen 1, h.frozen 2, h.frozen 3, h.frozen 4, h.frozen 5⟩
theorem four_cells {w : World} {b : Nat} {t : TypeId} {c0 c1 c2 c3 : Value} (h : Box w b t [c0, c1, c2, c3]) : w.cell? ⟨b, 0, none⟩ = some c0 ∧ w.cell? ⟨b, 1, none⟩ = some c1 ∧ w.cell? ⟨b, 2, none⟩ = some c2 ∧ w.cell? ⟨b, 3, none⟩ = some c3 :=
  ⟨h.cell 0, h.cell 1, h.cell 2, h.cell 3⟩
theorem four_frozen {w : World} {b : Nat} {t : TypeId} {c0 c1 c2 c3 : Value} (h : Box w b t [c0, c1, c2, c3]) : w.frozen? ⟨b, 0, none⟩ = false ∧ w.frozen? ⟨b, 1, none⟩ = false ∧ w.frozen? ⟨b, 2, none⟩ = false ∧ w.frozen? ⟨b, 3, none⟩ = false :=
  ⟨h.frozen 0, h.frozen 1, h.frozen 2, h.frozen 3⟩

end Go.Proofs.Ytgkeblpjmfdhkaa

namespace Go.Proofs.Ytgkeblpjmfdhkaa
open Go.RowKit Go.Maps
set_option linter.unusedVariables false
set_option linter.unusedSimpArgs false

end Go.Proofs.Ytgkeblpjmfdhkaa

namespace Go.Proofs.Ytgkeblpjmfdhkaa
open Go.RowKit Go.Maps
set_option linter.unusedVariables false
set_option linter.unusedSimpArgs false

theorem Out.set1 {R : Nat} {w w' : World} (h : Out (fun b => b = R) w w') (o : Nat) (u : Value) : Out (fun b => b = R) w (w'.setCell ⟨R, o, none⟩ u) := h.setCell (.inl rfl) u

theorem out_set4 {R : Nat} {w w' : World} (h : Out (fun b => b = R) w w') {b : Nat} (hb : w.heap.size ≤ b) (v0 v1 v2 v3 : Value) : Out (fun b => b = R) w ((((w'.setCell ⟨b, 0, none⟩ v0).setCell ⟨b, 1, none⟩ v1).setCell ⟨b, 2, none⟩ v2).setCell ⟨b, 3, none⟩ v3) :=
  (((h.setCell (p := ⟨b, 0, none⟩) (.inr hb) v0).setCell (p := ⟨b, 1, none⟩) (.inr hb) v1).setCell (p := ⟨b, 2, none⟩) (.inr hb) v2).setCell (p := ⟨b, 3, none⟩) (.inr hb) v3
theorem heap_set4 (w : World) (b : Nat) (v0 v1 v2 v3 : Value) {k : Nat} (hk : k ≠ b) : ((((w.setCell ⟨b, 0, none⟩ v0).setCell ⟨b, 1, none⟩ v1).setCell ⟨b, 2, none⟩ v2).setCell ⟨b, 3, none⟩ v3).heap[k]? = w.heap[k]? :=
  (Below.heap_setCell _ ⟨b, 3, none⟩ v3 k hk).trans ((Below.heap_setCell _ ⟨b, 2, none⟩ v2 k hk).trans ((Below.heap_setCell _ ⟨b, 1, none⟩ v1 k hk).trans (Below.heap_setCell w ⟨b, 0, none⟩ v0 k hk)))

end Go.Proofs.Ytgkeblpjmfdhkaa

namespace Go.Proofs.Ytgkeblpjmfdhkaa
open Go.RowKit Go.Maps
set_option linter.unusedVariables false
set_option linter.unusedSimpArgs false

/-- A tree of new blocks stays. -/
theorem stay {R : Nat} {W0 w w' : World} (ho : Out (fun b => b = R) w w') (hR : R < W0.heap.size) {cs : List Cl} {v : Value} (h : IsV (New W0) w cs v) : IsV (New W0) w' cs v :=
  h.out ho (fun b _ hb e => by unfold New at hb; subst e; omega)
theorem stayC {R : Nat} {W0 w w' : World} (ho : Out (fun b => b = R) w w') (hR : R < W0.heap.size) {cl : Cl} {v : Value} (h : InC (New W0) w cl v) : InC (New W0) w' cl v :=
  h.out ho (fun b _ hb e => by unfold New at hb; subst e; omega)
theorem newer {W0 W w : World} (h : W0.heap.size ≤ W.heap.size) {cs : List Cl} {v : Value} (k : IsV (New W) w cs v) : IsV (New W0) w cs v := k.mono fun b _ hb => by unfold New at *; omega
end Go.Proofs.Ytgkeblpjmfdhkaa
