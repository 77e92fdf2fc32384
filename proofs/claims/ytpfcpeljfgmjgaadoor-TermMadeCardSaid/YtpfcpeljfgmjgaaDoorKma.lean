/- The mathematics of types (layer 17): what may be, sizes, variables, others for variables, texts. No program. -/
import Derived.Test.YtpfcpeljfgmjgaaDoorZm
import Derived.Lib.ItoaNum
namespace Go.Proofs.YtpfcpeljfgmjgaaDoor
set_option linter.unusedVariables false
set_option linter.unusedSimpArgs false

def Ty.kd : Ty → Int
  | .mk k _ _ _ => k
def Ty.num : Ty → Int
  | .mk _ n _ _ => n
def Ty.nm : Ty → By
  | .mk _ _ s _ => s
def Ty.kids : Ty → List Ty
  | .mk _ _ _ l => l
mutual
/-- How many nodes. -/
def Ty.nn : Ty → Nat
  | .mk _ _ _ kids => 1 + Ty.nns kids
def Ty.nns : List Ty → Nat
  | [] => 0
  | x :: r => x.nn + Ty.nns r
end
mutual
/-- The numbers of all that is a variable, in order. -/
def Ty.vs : Ty → List Int
  | .mk k n _ kids => (if k = 1 then [n] else []) ++ Ty.vss kids
def Ty.vss : List Ty → List Int
  | [] => []
  | x :: r => x.vs ++ Ty.vss r
end
def conN (s : By) : Bool := rowB s && uppN (s.headD 0).toNat
def headMay (k n : Int) (s : By) (m : Nat) : Bool :=
  if k = 1 then decide (0 ≤ n) && decide (n ≤ 2147483647) && decide (s = []) && decide (m = 0)
  else if k = 2 then decide (n = 0) && (if s = tArrow then decide (m = 2) else if s = tComma then decide (2 ≤ m) && decide (m ≤ 8) else conN s && decide (m ≤ 20))
  else false
def mayL : Nat → Ty → Bool
  | 0, _ => false
  | d + 1, .mk k n s kids => headMay k n s kids.length && kids.all (mayL d)
mutual
/-- Others for variables. -/
def Ty.rep (f : Int → Ty) : Ty → Ty
  | .mk k n s kids => if k = 1 then f n else .mk k n s (Ty.reps f kids)
def Ty.reps (f : Int → Ty) : List Ty → List Ty
  | [] => []
  | x :: r => x.rep f :: Ty.reps f r
end
def vrT (n : Int) : Ty := .mk 1 n [] []
def substF (l : List Ty) (n : Int) : Ty := if 0 ≤ n then (l[n.toNat]?).getD (vrT n) else vrT n
def substL (l : List Ty) (t : Ty) : Ty := t.rep (substF l)
/-- One more, if it is none of them. -/
def addV (l : List Int) (n : Int) : List Int := if n ∈ l then l else l ++ [n]
def varsL (t : Ty) : List Int := t.vs.foldl addV []
def idxV : List Int → Int → Int
  | [], _ => -1
  | x :: r, n => if x = n then 0 else if idxV r n < 0 then -1 else idxV r n + 1
def canonL (t : Ty) : Ty := t.rep (fun n => vrT (idxV (varsL t) n))
/-- Texts. -/
def varTx (n : Int) : By := UInt8.ofNat (97 + n.toNat % 26) :: (if 26 ≤ n then Go.Lib.decDigits (n.toNat / 26) else [])
def held (b : Bool) (x : By) : By := if b then 40 :: (x ++ [41]) else x
def isArr (t : Ty) : Bool := decide (t.nm = tArrow)
def isHeld (t : Ty) : Bool := decide (t.nm = tArrow) || (decide (t.kids ≠ []) && decide (t.nm ≠ tComma))
def joinC : List By → By
  | [] => []
  | [x] => x
  | x :: r => x ++ [44, 32] ++ joinC r
def combT (k n : Int) (s : By) (kids : List Ty) (xs : List By) : By :=
  if k = 1 then varTx n
  else if s = tArrow then (match kids, xs with
    | a :: _, x :: y :: _ => held (isArr a) x ++ [32, 45, 62, 32] ++ y
    | _, _ => [])
  else if s = tComma then 40 :: (joinC xs ++ [41])
  else s ++ (kids.zip xs).flatMap (fun p => 32 :: held (isHeld p.1) p.2)
mutual
def textL : Ty → By
  | .mk k n s kids => combT k n s kids (textsL kids)
def textsL : List Ty → List By
  | [] => []
  | x :: r => textL x :: textsL r
end

/-! ### Lists as maps, folds -/
theorem Ty.nns_eq : ∀ l : List Ty, Ty.nns l = (l.map Ty.nn).sum
  | [] => by simp [Ty.nns]
  | x :: r => by simp [Ty.nns, Ty.nns_eq r]
theorem Ty.vss_eq : ∀ l : List Ty, Ty.vss l = l.flatMap Ty.vs
  | [] => by simp [Ty.vss]
  | x :: r => by simp [Ty.vss, Ty.vss_eq r]
theorem Ty.reps_eq (f : Int → Ty) : ∀ l : List Ty, Ty.reps f l = l.map (Ty.rep f)
  | [] => by simp [Ty.reps]
  | x :: r => by simp [Ty.reps, Ty.reps_eq f r]
theorem textsL_eq : ∀ l : List Ty, textsL l = l.map textL
  | [] => by simp [textsL]
  | x :: r => by simp [textsL, textsL_eq r]
theorem Ty.nn_pos : ∀ t : Ty, 1 ≤ t.nn
  | .mk _ _ _ _ => by simp [Ty.nn]
theorem Ty.nn_mem : ∀ {l : List Ty} {x : Ty}, x ∈ l → x.nn ≤ Ty.nns l
  | y :: r, x, h => by
    simp only [Ty.nns]
    rcases List.mem_cons.1 h with rfl | h
    · omega
    · have := Ty.nn_mem h; omega
theorem Ty.nns_take (l : List Ty) (i : Nat) : Ty.nns (l.take i) ≤ Ty.nns l := by
  induction l generalizing i with
  | nil => simp [Ty.nns]
  | cons x r ih => cases i with
    | zero => simp [Ty.nns]
    | succ i => simp only [List.take_succ_cons, Ty.nns]; have := ih i; omega
theorem Ty.nns_app (l m : List Ty) : Ty.nns (l ++ m) = Ty.nns l + Ty.nns m := by
  induction l with
  | nil => simp [Ty.nns]
  | cons x r ih => simp only [List.cons_append, Ty.nns, ih]; omega
theorem Ty.nns_len (l : List Ty) : l.length ≤ Ty.nns l := by
  induction l with
  | nil => simp
  | cons x r ih => simp only [List.length_cons, Ty.nns]; have := x.nn_pos; omega
/-- By induction on nodes' kids. -/
theorem Ty.ind {P : Ty → Prop} (h : ∀ k n s kids, (∀ x ∈ kids, P x) → P (.mk k n s kids)) (t : Ty) : P t := by
  have key : ∀ (d : Nat) (t : Ty), t.nn ≤ d → P t := by
    intro d
    induction d with
    | zero => intro t ht; have := t.nn_pos; omega
    | succ d ih =>
      intro t ht
      obtain ⟨k, n, s, kids⟩ := t
      exact h k n s kids fun x hx => ih x (by have := Ty.nn_mem hx; simp only [Ty.nn] at ht; omega)
  exact key _ t (Nat.le_refl _)
theorem Ty.vs_len (t : Ty) : t.vs.length ≤ t.nn := by
  refine Ty.ind (P := fun t => t.vs.length ≤ t.nn) (fun k n s kids ih => ?_) t
  have hk : (Ty.vss kids).length ≤ Ty.nns kids := by
    induction kids with
    | nil => simp [Ty.vss, Ty.nns]
    | cons x r ih2 =>
      simp only [Ty.vss, Ty.nns, List.length_append]
      have h1 := ih x (by simp)
      have h2 := ih2 (fun y hy => ih y (by simp [hy]))
      omega
  simp only [Ty.vs, Ty.nn, List.length_append]
  split
  · simp; omega
  · simp; omega
theorem addV_len (l : List Int) (n : Int) : (addV l n).length ≤ l.length + 1 := by
  unfold addV; split
  · omega
  · simp
theorem foldl_addV_len : ∀ (ns l : List Int), (ns.foldl addV l).length ≤ l.length + ns.length
  | [], l => by simp
  | n :: r, l => by
    have h1 := foldl_addV_len r (addV l n)
    have h2 := addV_len l n
    simp only [List.foldl_cons, List.length_cons]; omega
theorem varsL_len (t : Ty) : (varsL t).length ≤ t.nn := by
  have h1 := foldl_addV_len t.vs []
  have h2 := t.vs_len
  unfold varsL; simp at h1; omega
theorem mem_addV (l : List Int) (n m : Int) : m ∈ addV l n ↔ m ∈ l ∨ m = n := by
  unfold addV; split
  · rename_i h; constructor
    · exact .inl
    · rintro (h' | rfl)
      · exact h'
      · exact h
  · simp
theorem mem_foldl_addV : ∀ (ns l : List Int) (m : Int), m ∈ ns.foldl addV l ↔ m ∈ l ∨ m ∈ ns
  | [], l, m => by simp
  | n :: r, l, m => by
    rw [List.foldl_cons, mem_foldl_addV r, mem_addV]; simp [or_assoc]
theorem mem_varsL (t : Ty) (m : Int) : m ∈ varsL t ↔ m ∈ t.vs := by unfold varsL; rw [mem_foldl_addV]; simp
theorem nodup_addV {l : List Int} (h : l.Nodup) (n : Int) : (addV l n).Nodup := by
  unfold addV; split
  · exact h
  · rename_i hn
    rw [List.nodup_append]
    exact ⟨h, by simp, fun a ha b hb => by simp at hb; subst hb; intro e; exact hn (e ▸ ha)⟩
theorem nodup_foldl : ∀ (ns l : List Int), l.Nodup → (ns.foldl addV l).Nodup
  | [], l, h => h
  | n :: r, l, h => nodup_foldl r _ (nodup_addV h n)
theorem nodup_varsL (t : Ty) : (varsL t).Nodup := nodup_foldl _ _ List.nodup_nil
theorem idxV_range : ∀ (l : List Int) (n : Int), -1 ≤ idxV l n ∧ idxV l n < l.length
  | [], n => by simp [idxV]
  | x :: r, n => by
    have := idxV_range r n
    unfold idxV
    simp only [List.length_cons]
    split
    · omega
    · split <;> omega
theorem idxV_at : ∀ {l : List Int} {i : Nat} {n : Int}, l.Nodup → l[i]? = some n → idxV l n = i
  | [], i, n, _, h => by simp at h
  | x :: r, 0, n, _, h => by
    simp at h; subst h; simp [idxV]
  | x :: r, i + 1, n, hd, h => by
    rw [List.nodup_cons] at hd
    simp only [List.getElem?_cons_succ] at h
    have hm := List.mem_of_getElem? h
    have hx : x ≠ n := fun e => hd.1 (e ▸ hm)
    have := idxV_at hd.2 h
    unfold idxV
    rw [if_neg hx, this, if_neg (by omega)]; omega
theorem idxV_not : ∀ {l : List Int} {n : Int}, n ∉ l → idxV l n = -1
  | [], n, _ => rfl
  | x :: r, n, h => by
    simp only [List.mem_cons, not_or] at h
    have := idxV_not h.2
    unfold idxV
    rw [if_neg (fun e => h.1 e.symm), this]; rfl
theorem Ty.vss_mem : ∀ {l : List Ty} {x : Ty} {v : Int}, x ∈ l → v ∈ x.vs → v ∈ Ty.vss l
  | y :: r, x, v, h, hv => by
    simp only [Ty.vss, List.mem_append]
    rcases List.mem_cons.1 h with rfl | h
    · exact .inl hv
    · exact .inr (Ty.vss_mem h hv)
/-- What others say at a type's own variables is all that counts. -/
theorem Ty.rep_congr {f g : Int → Ty} (t : Ty) : (∀ v ∈ t.vs, f v = g v) → t.rep f = t.rep g := by
  refine Ty.ind (P := fun t => (∀ v ∈ t.vs, f v = g v) → t.rep f = t.rep g) (fun k n s kids ih h => ?_) t
  simp only [Ty.rep]
  split
  · rename_i hk
    exact h n (by simp [Ty.vs, hk])
  · rw [Ty.reps_eq, Ty.reps_eq]
    congr 1
    exact List.map_congr_left fun x hx => ih x hx fun v hv => h v (by simp only [Ty.vs, List.mem_append]; exact .inr (Ty.vss_mem hx hv))
/-- How large a type with others is. -/
theorem Ty.rep_nn {f : Int → Ty} {N : Nat} (hN : 1 ≤ N) (hf : ∀ v, (f v).nn ≤ N) (t : Ty) : (t.rep f).nn ≤ t.nn * N := by
  refine Ty.ind (P := fun t => (t.rep f).nn ≤ t.nn * N) (fun k n s kids ih => ?_) t
  simp only [Ty.rep]
  split
  · have := hf n
    refine Nat.le_trans this ?_
    simp only [Ty.nn]
    exact Nat.le_mul_of_pos_left _ (by omega)
  · simp only [Ty.nn]
    have hk : Ty.nns (Ty.reps f kids) ≤ Ty.nns kids * N := by
      induction kids with
      | nil => simp [Ty.reps, Ty.nns]
      | cons x r ih2 =>
        simp only [Ty.reps, Ty.nns, Nat.add_mul]
        have h1 := ih x (by simp)
        have h2 := ih2 (fun y hy => ih y (by simp [hy]))
        omega
    rw [Nat.add_mul]; omega

end Go.Proofs.YtpfcpeljfgmjgaaDoor
