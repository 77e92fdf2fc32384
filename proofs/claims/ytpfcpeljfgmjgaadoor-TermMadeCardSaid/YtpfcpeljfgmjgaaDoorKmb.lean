/- The mathematics of types by numbers (layer 17): what is made, and that it may be. No program. -/
import Derived.Test.YtpfcpeljfgmjgaaDoorKma
namespace Go.Proofs.YtpfcpeljfgmjgaaDoor
set_option linter.unusedVariables false
set_option linter.unusedSimpArgs false

def nInt : By := [73, 110, 116]
def nBool : By := [66, 111, 111, 108]
def nList : By := [76, 105, 115, 116]
def cnT (s : By) : Ty := .mk 2 0 s []
def arT (a b : Ty) : Ty := .mk 2 0 tArrow [a, b]
def paT (a b : Ty) : Ty := .mk 2 0 tComma [a, b]
def liT (a : Ty) : Ty := .mk 2 0 nList [a]
/-- A type by numbers. -/
def makeF : Nat → List Nat → Nat → Ty
  | 0, _, _ => cnT nInt
  | _ + 1, [], _ => cnT nInt
  | f + 1, n :: r, v =>
    if (n % 3 = 0 ∧ 0 < v) ∨ (r = [] ∧ 0 < v ∧ n % 3 = 1) then vrT ((n / 3 % v : Nat) : Int)
    else if n / 3 % 5 = 0 then cnT (if n / 15 % 2 = 0 then nInt else nBool)
    else if n / 3 % 5 = 1 ∨ n / 3 % 5 = 2 then arT (makeF f r v) (makeF f (r.drop (r.length / 2)) v)
    else if n / 3 % 5 = 3 then paT (makeF f (r.drop (r.length / 2)) v) (makeF f r v)
    else liT (makeF f r v)
/-- What such a type is made of. -/
inductive MkT (v : Nat) : Ty → Prop where
  | vr (n : Nat) (h : n < v) : MkT v (vrT (n : Int))
  | int : MkT v (cnT nInt)
  | bool : MkT v (cnT nBool)
  | ar {a b : Ty} : MkT v a → MkT v b → MkT v (arT a b)
  | pa {a b : Ty} : MkT v a → MkT v b → MkT v (paT a b)
  | li {a : Ty} : MkT v a → MkT v (liT a)
theorem makeF_mk (v : Nat) : ∀ (f : Nat) (ns : List Nat), MkT v (makeF f ns v)
  | 0, _ => .int
  | _ + 1, [] => .int
  | f + 1, n :: r => by
    unfold makeF
    split
    · rename_i h
      have hv : 0 < v := by rcases h with h | h <;> omega
      exact .vr _ (Nat.mod_lt _ hv)
    · split
      · split
        · exact .int
        · exact .bool
      · split
        · exact .ar (makeF_mk v f _) (makeF_mk v f _)
        · split
          · exact .pa (makeF_mk v f _) (makeF_mk v f _)
          · exact .li (makeF_mk v f _)
theorem MkT.mono {v w : Nat} (h : v ≤ w) {t : Ty} (k : MkT v t) : MkT w t := by
  induction k with
  | vr n hn => exact .vr n (by omega)
  | int => exact .int
  | bool => exact .bool
  | ar _ _ a b => exact .ar a b
  | pa _ _ a b => exact .pa a b
  | li _ a => exact .li a
/-- So deep; with so many nodes. -/
theorem makeF_deep (v : Nat) : ∀ (f : Nat) (ns : List Nat), (makeF f ns v).deep ≤ f + 1
  | 0, _ => by simp [makeF, cnT, Ty.deep, Ty.deeps]
  | _ + 1, [] => by simp [makeF, cnT, Ty.deep, Ty.deeps]
  | f + 1, n :: r => by
    have h1 := makeF_deep v f r
    have h2 := makeF_deep v f (r.drop (r.length / 2))
    unfold makeF
    split
    · simp [vrT, Ty.deep, Ty.deeps]
    · split
      · simp [cnT, Ty.deep, Ty.deeps]
      · split
        · simp [arT, Ty.deep, Ty.deeps]; omega
        · split
          · simp [paT, Ty.deep, Ty.deeps]; omega
          · simp [liT, Ty.deep, Ty.deeps]; omega
theorem makeF_nn (v : Nat) : ∀ (f : Nat) (ns : List Nat), (makeF f ns v).nn + 1 ≤ 2 ^ (f + 1)
  | 0, _ => by simp [makeF, cnT, Ty.nn, Ty.nns]
  | f + 1, [] => by
    simp [makeF, cnT, Ty.nn, Ty.nns]
    have : 1 ≤ 2 ^ f := Nat.one_le_two_pow
    rw [Nat.pow_succ, Nat.pow_succ]; omega
  | f + 1, n :: r => by
    have h1 := makeF_nn v f r
    have h2 := makeF_nn v f (r.drop (r.length / 2))
    have h3 : 1 ≤ 2 ^ f := Nat.one_le_two_pow
    rw [Nat.pow_succ] at h1 h2
    rw [Nat.pow_succ, Nat.pow_succ]
    unfold makeF
    split
    · simp [vrT, Ty.nn, Ty.nns]; omega
    · split
      · simp [cnT, Ty.nn, Ty.nns]; omega
      · split
        · simp [arT, Ty.nn, Ty.nns]; omega
        · split
          · simp [paT, Ty.nn, Ty.nns]; omega
          · simp [liT, Ty.nn, Ty.nns]; omega
/-- More fuel than bytes makes no difference. -/
theorem makeF_fuel (v : Nat) : ∀ (f g : Nat) (ns : List Nat), ns.length ≤ f → ns.length ≤ g → makeF f ns v = makeF g ns v
  | 0, 0, _, _, _ => rfl
  | 0, g + 1, [], _, _ => rfl
  | f + 1, 0, [], _, _ => rfl
  | f + 1, g + 1, [], _, _ => rfl
  | f + 1, g + 1, n :: r, h1, h2 => by
    simp only [List.length_cons] at h1 h2
    have e1 := makeF_fuel v f g r (by omega) (by omega)
    have e2 := makeF_fuel v f g (r.drop (r.length / 2)) (by simp; omega) (by simp; omega)
    unfold makeF
    rw [e1, e2]
def makeT (ns : List Nat) (v : Nat) : Ty := makeF ns.length ns v
theorem makeT_nil (v : Nat) : makeT [] v = cnT nInt := rfl
theorem makeT_cons (n : Nat) (r : List Nat) (v : Nat) : makeT (n :: r) v =
    if (n % 3 = 0 ∧ 0 < v) ∨ (r = [] ∧ 0 < v ∧ n % 3 = 1) then vrT ((n / 3 % v : Nat) : Int)
    else if n / 3 % 5 = 0 then cnT (if n / 15 % 2 = 0 then nInt else nBool)
    else if n / 3 % 5 = 1 ∨ n / 3 % 5 = 2 then arT (makeT r v) (makeT (r.drop (r.length / 2)) v)
    else if n / 3 % 5 = 3 then paT (makeT (r.drop (r.length / 2)) v) (makeT r v)
    else liT (makeT r v) := by
  unfold makeT
  rw [makeF_fuel v (r.drop (r.length / 2)).length r.length (r.drop (r.length / 2)) (Nat.le_refl _) (by simp)]
  rfl
theorem makeT_mk (ns : List Nat) (v : Nat) : MkT v (makeT ns v) := makeF_mk v _ _
theorem makeT_deep (ns : List Nat) (v : Nat) : (makeT ns v).deep ≤ ns.length + 1 := makeF_deep v _ _
theorem makeT_nn (ns : List Nat) (v : Nat) : (makeT ns v).nn ≤ 2 ^ (ns.length + 1) := by have := makeF_nn v ns.length ns; unfold makeT; omega

/-! ### What may be -/
/-- A head that may be, with all kids, however deep. -/
def okT (t : Ty) : Prop := ∃ d, mayL d t = true
theorem mayL_mono : ∀ (d e : Nat) (t : Ty), d ≤ e → mayL d t = true → mayL e t = true
  | 0, e, t, _, h => by simp [mayL] at h
  | d + 1, 0, t, hd, h => by omega
  | d + 1, e + 1, .mk k n s kids, hd, h => by
    simp only [mayL, Bool.and_eq_true, List.all_eq_true] at h ⊢
    exact ⟨h.1, fun x hx => mayL_mono d e x (by omega) (h.2 x hx)⟩
/-- It may be just where each node may be and it is not too deep. -/
theorem mayL_deep : ∀ (d : Nat) (t : Ty), mayL d t = true → t.deep ≤ d
  | 0, t, h => by simp [mayL] at h
  | d + 1, .mk k n s kids, h => by
    simp only [mayL, Bool.and_eq_true, List.all_eq_true] at h
    have : Ty.deeps kids ≤ d := by
      have hk := h.2
      clear h
      induction kids with
      | nil => simp [Ty.deeps]
      | cons x r ih =>
        simp only [Ty.deeps]
        have h1 := mayL_deep d x (hk x (by simp))
        have h2 := ih (fun y hy => hk y (by simp [hy]))
        omega
    simp only [Ty.deep]; omega
theorem conN_int : conN nInt = true := by decide
theorem conN_bool : conN nBool = true := by decide
theorem conN_list : conN nList = true := by decide
theorem MkT.may {v : Nat} (hv : v ≤ 2147483647) {t : Ty} (k : MkT v t) : ∀ d, t.deep ≤ d → mayL d t = true := by
  induction k with
  | vr n hn =>
    intro d hd
    simp only [vrT, Ty.deep, Ty.deeps] at hd
    obtain ⟨d, rfl⟩ : ∃ e, d = e + 1 := ⟨d - 1, by omega⟩
    simp [vrT, mayL, headMay]; omega
  | int =>
    intro d hd
    simp only [cnT, Ty.deep, Ty.deeps] at hd
    obtain ⟨d, rfl⟩ : ∃ e, d = e + 1 := ⟨d - 1, by omega⟩
    simp only [cnT, mayL]; rfl
  | bool =>
    intro d hd
    simp only [cnT, Ty.deep, Ty.deeps] at hd
    obtain ⟨d, rfl⟩ : ∃ e, d = e + 1 := ⟨d - 1, by omega⟩
    simp only [cnT, mayL]; rfl
  | @ar a b _ _ ha hb =>
    intro d hd
    simp only [arT, Ty.deep, Ty.deeps] at hd
    obtain ⟨d, rfl⟩ : ∃ e, d = e + 1 := ⟨d - 1, by omega⟩
    simp only [arT, mayL, List.all_cons, List.all_nil, ha d (by omega), hb d (by omega)]; rfl
  | @pa a b _ _ ha hb =>
    intro d hd
    simp only [paT, Ty.deep, Ty.deeps] at hd
    obtain ⟨d, rfl⟩ : ∃ e, d = e + 1 := ⟨d - 1, by omega⟩
    simp only [paT, mayL, List.all_cons, List.all_nil, ha d (by omega), hb d (by omega)]; rfl
  | @li a _ ha =>
    intro d hd
    simp only [liT, Ty.deep, Ty.deeps] at hd
    obtain ⟨d, rfl⟩ : ∃ e, d = e + 1 := ⟨d - 1, by omega⟩
    simp only [liT, mayL, List.all_cons, List.all_nil, ha d (by omega)]; rfl
/-- With such ones for its variables it is such a one. -/
theorem MkT.sub {v w : Nat} {l : List Ty} (hl : ∀ x ∈ l, MkT w x) (hvl : v ≤ l.length) {t : Ty} (k : MkT v t) : MkT w (substL l t) := by
  induction k with
  | vr n hn =>
    have hg : l[n]? = some l[n] := List.getElem?_eq_getElem (by omega)
    simp [substL, vrT, Ty.rep, substF, hg]
    exact hl _ (List.mem_of_getElem? hg)
  | int => exact .int
  | bool => exact .bool
  | ar _ _ a b => exact .ar a b
  | pa _ _ a b => exact .pa a b
  | li _ a => exact .li a
theorem Ty.deeps_le17 : ∀ (l : List Ty) (N : Nat), (∀ x ∈ l, x.deep ≤ N) → Ty.deeps l ≤ N
  | [], N, h => Nat.zero_le _
  | x :: r, N, h => by
    simp only [Ty.deeps]
    have := Ty.deeps_le17 r N (fun y hy => h y (by simp [hy]))
    have := h x (by simp)
    omega
theorem Ty.deep_mem17 : ∀ {l : List Ty} {x : Ty}, x ∈ l → x.deep ≤ Ty.deeps l
  | y :: r, x, h => by
    simp only [Ty.deeps]
    rcases List.mem_cons.1 h with rfl | h
    · omega
    · have := Ty.deep_mem17 h; omega
theorem Ty.rep_deep {f : Int → Ty} {N : Nat} (hf : ∀ v, (f v).deep ≤ N) (t : Ty) : (t.rep f).deep ≤ t.deep + N := by
  refine Ty.ind (P := fun t => (t.rep f).deep ≤ t.deep + N) (fun k n s kids ih => ?_) t
  simp only [Ty.rep]
  split
  · have := hf n; omega
  · simp only [Ty.deep, Ty.reps_eq]
    have : Ty.deeps (kids.map (Ty.rep f)) ≤ Ty.deeps kids + N := by
      refine Ty.deeps_le17 _ _ fun x hx => ?_
      obtain ⟨y, hy, rfl⟩ := List.mem_map.1 hx
      have h1 := ih y hy
      have h2 := Ty.deep_mem17 hy
      omega
    omega
theorem substF_deep {l : List Ty} {N : Nat} (hN : 1 ≤ N) (hl : ∀ x ∈ l, x.deep ≤ N) (v : Int) : (substF l v).deep ≤ N := by
  unfold substF
  have h1 : (vrT v).deep ≤ N := by simp [vrT, Ty.deep, Ty.deeps]; exact hN
  split
  · cases h : l[v.toNat]? with
    | none => simpa using h1
    | some x => simpa using hl x (List.mem_of_getElem? h)
  · exact h1
theorem substF_nn {l : List Ty} {N : Nat} (hN : 1 ≤ N) (hl : ∀ x ∈ l, x.nn ≤ N) (v : Int) : (substF l v).nn ≤ N := by
  unfold substF
  have h1 : (vrT v).nn ≤ N := by simp [vrT, Ty.nn, Ty.nns]; exact hN
  split
  · cases h : l[v.toNat]? with
    | none => simpa using h1
    | some x => simpa using hl x (List.mem_of_getElem? h)
  · exact h1

/-! ### Others by others -/
theorem MkT.rep_rep {v : Nat} {f g h : Int → Ty} (hv : ∀ n : Nat, n < v → (f n).rep g = h n) {t : Ty} (k : MkT v t) : (t.rep f).rep g = t.rep h := by
  induction k with
  | vr n hn => simp [vrT, Ty.rep, hv n hn]
  | int => rfl
  | bool => rfl
  | ar _ _ a b => simp [arT, Ty.rep, Ty.reps] at a b ⊢; exact ⟨a, b⟩
  | pa _ _ a b => simp [paT, Ty.rep, Ty.reps] at a b ⊢; exact ⟨a, b⟩
  | li _ a => simp [liT, Ty.rep, Ty.reps] at a ⊢; exact a
theorem MkT.rep_id {v : Nat} {f : Int → Ty} (hv : ∀ n : Nat, n < v → f n = vrT n) {t : Ty} (k : MkT v t) : t.rep f = t := by
  induction k with
  | vr n hn => simp [vrT, Ty.rep, hv n hn]
  | int => rfl
  | bool => rfl
  | ar _ _ a b => simp [arT, Ty.rep, Ty.reps, a, b]
  | pa _ _ a b => simp [paT, Ty.rep, Ty.reps, a, b]
  | li _ a => simp [liT, Ty.rep, Ty.reps, a]

end Go.Proofs.YtpfcpeljfgmjgaaDoor
