/- Package parse's typeDeep, isTooDeep, Deep. slices.IndexFunc, slices.ContainsFunc at types and isTooDeep; slices.Min. Package parse's tooDeep. A drawn region by an invariant over the operations that are done. Package parse's begins: a map literal whose operations come up in any order, by an invariant. -/
import Derived.Test.YtgkeblpjmfdhkaaZBM
import Derived.Test.YtgkeblpjmfdhkaaZAM
import Derived.Test.YtgkeblpjmfdhkaaZDM
import Derived.Test.YtgkeblpjmfdhkaaZGM
import Derived.OrdersHeld
import Derived.StillTail
namespace Go.Proofs.Ytgkeblpjmfdhkaa
open Go.RowKit Go.Maps
set_option linter.unusedVariables false
set_option linter.unusedSimpArgs false

theorem flatC_at {α : Type} {k : Nat} {f : α → List Cl} (hk : ∀ x, (f x).length = k) : ∀ (l : List α) (i : Nat) (x : α), l[i]? = some x → ∀ j, j < k → (l.flatMap f)[i * k + j]? = (f x)[j]?
  | q :: r, 0, x, hx, j, hj => by
    simp at hx; subst hx
    rw [List.flatMap_cons, List.getElem?_append_left (by rw [hk]; omega)]; simp
  | q :: r, i + 1, x, hx, j, hj => by
    have ih := flatC_at hk r i x (by simpa using hx) j hj
    rw [List.flatMap_cons, List.getElem?_append_right (by rw [hk, Nat.add_mul]; omega), hk, ← ih]
    congr 1
    rw [Nat.add_mul]; omega
/-- The i-th thing behind a slice, cell by cell. -/
theorem InC.elem {α : Type} {S : Nat → Prop} {w : World} {k m cp : Nat} {f : α → List Cl} (hk : ∀ x, (f x).length = k) {l : List α} {a : Option Addr} (h : InC S w (.s l.length k (l.flatMap f)) (.slice a m cp)) {i : Nat} {x : α} (hx : l[i]? = some x) :
    ∃ (b off : Nat) (us : List Value), a = some ⟨b, off, none⟩ ∧ b < w.heap.size ∧ IsV S w (f x) (.agg us.toArray) ∧ ∀ (j : Nat) (u : Value), us[j]? = some u → w.cell? ⟨b, off + (i * k + j), none⟩ = some u := by
  have hi : i < l.length := (List.getElem?_eq_some_iff.1 hx).1
  obtain ⟨_, h2 | ⟨b, off, us, h2, h3, h4, h5, h6⟩⟩ := h.at_
  · omega
  · have hul : us.length = l.length * k := by rw [h5.1, flatC_len hk]
    have hik : i * k + k ≤ l.length * k := by have := Nat.mul_le_mul_right k (show i + 1 ≤ l.length from hi); rw [Nat.add_mul] at this; omega
    have hg : ∀ j, j < k → ((us.drop (i * k)).take k)[j]? = us[i * k + j]? := fun j hj => by
      rw [List.getElem?_take, if_pos hj, List.getElem?_drop]
    have hl2 : ((us.drop (i * k)).take k).length = k := by rw [List.length_take, List.length_drop]; omega
    refine ⟨b, off, (us.drop (i * k)).take k, h2, h4, ⟨_, rfl, ?_, fun j c u h7 h8 => ?_⟩, fun j u hu => ?_⟩
    · rw [hk, hl2]
    · have hj : j < k := by have := (List.getElem?_eq_some_iff.1 h7).1; rwa [hk] at this
      rw [hg j hj] at h8
      exact h5.2 (i * k + j) c u (by rw [flatC_at hk l i x hx j hj]; exact h7) h8
    · have hj : j < k := by have := (List.getElem?_eq_some_iff.1 hu).1; omega
      rw [hg j hj] at hu
      exact h6 _ _ hu
theorem Ty.deeps_snoc : ∀ (l : List Ty) (x : Ty), Ty.deeps (l ++ [x]) = max (Ty.deeps l) x.deep
  | [], x => by simp [Ty.deeps]
  | y :: r, x => by simp [Ty.deeps, Ty.deeps_snoc r x, Nat.max_assoc]
theorem Ty.deeps_mem : ∀ {l : List Ty} {x : Ty}, x ∈ l → x.deep ≤ Ty.deeps l
  | y :: r, x, h => by
    simp only [Ty.deeps]
    rcases List.mem_cons.1 h with rfl | h
    · omega
    · have := Ty.deeps_mem h; omega
theorem Ex.deeps_snoc : ∀ (l : List Ex) (x : Ex), Ex.deeps (l ++ [x]) = max (Ex.deeps l) x.deep
  | [], x => by simp [Ex.deeps]
  | y :: r, x => by simp [Ex.deeps, Ex.deeps_snoc r x, Nat.max_assoc]
theorem Ex.deeps_mem : ∀ {l : List Ex} {x : Ex}, x ∈ l → x.deep ≤ Ex.deeps l
  | y :: r, x, h => by
    simp only [Ex.deeps]
    rcases List.mem_cons.1 h with rfl | h
    · omega
    · have := Ex.deeps_mem h; omega
theorem Al.deeps_snoc : ∀ (l : List Al) (x : Al), Al.deeps (l ++ [x]) = max (Al.deeps l) x.deep
  | [], x => by simp [Al.deeps]
  | y :: r, x => by simp [Al.deeps, Al.deeps_snoc r x, Nat.max_assoc]
theorem Al.deeps_mem : ∀ {l : List Al} {x : Al}, x ∈ l → x.deep ≤ Al.deeps l
  | y :: r, x, h => by
    simp only [Al.deeps]
    rcases List.mem_cons.1 h with rfl | h
    · omega
    · have := Al.deeps_mem h; omega
theorem take_snoc' {α : Type} {l : List α} {i : Nat} {x : α} (h : l[i]? = some x) : l.take (i + 1) = l.take i ++ [x] := by
  rw [List.take_add_one, h]; rfl
theorem max_if' (a b : Nat) : (if a < b then (b : Int) else (a : Int)) = ((max a b : Nat) : Int) := by split <;> omega

theorem IsV.al2 {S : Nat → Prop} {w : World} {v : Value} {x : Al} (h : IsV S w (alC x) v) : ∃ (p : Int) (s : By) (a1 : Option Addr) (m1 c1 : Nat) (k q n : Int) (s2 : By) (a2 a3 : Option Addr) (m2 m3 c2 c3 : Nat) (b : Ex), v = .agg #[.int .i64 p, .string (strB s), .slice a1 m1 c1, .int .i64 k, .int .i64 q, .string (strB s2), .int .i64 n, .slice a2 m2 c2, .slice a3 m3 c3] ∧ x.deep = b.deep ∧ IsV S w (exC b) (.agg #[.int .i64 k, .int .i64 q, .string (strB s2), .int .i64 n, .slice a2 m2 c2, .slice a3 m3 c3]) := by
  cases x with
  | mk p s names b =>
    obtain ⟨us, rfl, h⟩ := h
    unfold alC at h
    obtain ⟨u0, r0, rfl, l0⟩ := three_cons (n := exC b |>.length.succ.succ) (by simpa using h.1)
    obtain ⟨u1, r1, rfl, l1⟩ := three_cons (n := (exC b).length + 1) l0
    obtain ⟨u2, r2, rfl, l2⟩ := three_cons (n := (exC b).length) l1
    obtain rfl := h.head.val
    obtain rfl := h.tail.head.val
    obtain ⟨a, cp, rfl, _, _⟩ := h.tail.tail.head.slice
    have h2 : IsV S w (exC b) (.agg r2.toArray) := ⟨r2, rfl, h.tail.tail.tail⟩
    obtain ⟨k, q, n, s2, a2, a3, m2, m3, c2, c3, hv, _⟩ := h2.exs
    obtain rfl := agg_inj hv
    exact ⟨p, s, a, _, cp, k, q, n, s2, a2, a3, m2, m3, c2, c3, b, rfl, by simp only [Al.deep], h2⟩
end Go.Proofs.Ytgkeblpjmfdhkaa

namespace Go.Proofs.Ytgkeblpjmfdhkaa
open Go.RowKit Go.Maps
set_option linter.unusedVariables false
set_option linter.unusedSimpArgs false

end Go.Proofs.Ytgkeblpjmfdhkaa

namespace Go.Proofs.Ytgkeblpjmfdhkaa
open Go.RowKit Go.Maps
set_option linter.unusedVariables false
set_option linter.unusedSimpArgs false

theorem IsV.dt2 {S : Nat → Prop} {w : World} {v : Value} {d : Dt} (h : IsV S w (dtC d) v) : ∃ (a a' : Option Addr) (cp cp' : Nat), v = .agg #[.string (strB d.s), .int .i64 d.p, .slice a d.vars.length cp, .slice a' d.cons.length cp'] ∧ InC S w (.s d.cons.length 3 (d.cons.flatMap cnC)) (.slice a' d.cons.length cp') := by
  obtain ⟨us, rfl, h⟩ := h
  unfold dtC at h
  obtain ⟨u0, r0, rfl, l0⟩ := three_cons (n := 3) h.1
  obtain ⟨u1, r1, rfl, l1⟩ := three_cons (n := 2) l0
  obtain ⟨u2, r2, rfl, l2⟩ := three_cons (n := 1) l1
  obtain ⟨u3, r3, rfl, l3⟩ := three_cons (n := 0) l2
  obtain rfl := List.eq_nil_of_length_eq_zero l3
  obtain rfl := h.head.val
  obtain rfl := h.tail.head.val
  obtain ⟨a, cp, rfl, _, _⟩ := h.tail.tail.head.slice
  obtain ⟨a', cp', rfl, _, _⟩ := h.tail.tail.tail.head.slice
  exact ⟨a, a', cp, cp', rfl, h.tail.tail.tail.head⟩
end Go.Proofs.Ytgkeblpjmfdhkaa

namespace Go.Proofs.Ytgkeblpjmfdhkaa
open Go
set_option linter.unusedVariables false
set_option linter.unusedSimpArgs false

/-- How many operations have not come up. -/
def lacks (listed : Array Bool) : Nat := listed.toList.count false

theorem lacks_set {listed : Array Bool} {i : Nat} (h : listed.getD i true = false) : lacks (listed.setIfInBounds i true) + 1 = lacks listed := by
  have hi : i < listed.size := by
    rcases Nat.lt_or_ge i listed.size with h' | h'
    · exact h'
    · simp [Array.getElem?_eq_none h'] at h
  have hv : listed[i] = false := by simpa [hi] using h
  unfold lacks
  have h0 : listed.toList[i]'(by simpa using hi) = false := by simpa using hv
  have hpos : 0 < listed.toList.count false := List.count_pos_iff.2 (h0 ▸ List.getElem_mem _)
  rw [Array.toList_setIfInBounds, List.count_set (by simpa using hi), h0]
  generalize listed.toList.count false = n at hpos ⊢
  have e1 : (false == false) = true := rfl
  have e2 : (true == false) = false := rfl
  rw [e1, e2, if_pos rfl, if_neg (by simp)]
  omega

section
variable {P : Program} {ops : Array Oper} {Q : Exit → Act → World → Prop} {md : Region.Mode}

/-- An invariant that each operation that may come up keeps, whatever came up before it. -/
theorem wpAny_inv (I : Array Bool → Act → World → Prop)
    (hend : ∀ listed a w, I listed a w → Region.ready md ops listed = [] → Q .normal a w)
    (hstep : ∀ listed a w, I listed a w → ∀ i ∈ Region.ready md ops listed, wpOp P ops Q i (I (listed.setIfInBounds i true)) a w) :
    ∀ (fuel : Nat) (listed : Array Bool) (a : Act) (w : World), lacks listed ≤ fuel → I listed a w → wpAny P md ops Q fuel listed a w := by
  intro fuel
  induction fuel with
  | zero =>
    intro listed a w hl h
    have hr : Region.ready md ops listed = [] := by
      refine List.eq_nil_iff_forall_not_mem.2 fun i hi => ?_
      have h1 := lacks_set (mem_ready.1 hi).1
      omega
    exact ⟨hr, hend _ _ _ h hr⟩
  | succ fuel ih =>
    intro listed a w hl h
    refine ⟨hend _ _ _ h, fun i hi => wpOp_mono (fun a' w' h' => ih _ a' w' ?_ h') (hstep _ _ _ h i hi)⟩
    have h1 := lacks_set (mem_ready.1 hi).1
    omega

/-- A drawn region, by such an invariant. -/
theorem wp_region_inv {id : Nat} {a : Act} {w : World} (hm : P.follows .mixedOrders = true) (I : Array Bool → Act → World → Prop)
    (h0 : I (Array.replicate ops.size false) a { w with drawn := w.drawn + 1 })
    (hstep : ∀ listed a w, I listed a w → ∀ i ∈ Region.ready .any ops listed, wpOp P ops Q i (I (listed.setIfInBounds i true)) a w)
    (hend : ∀ listed a w, I listed a w → Region.ready .any ops listed = [] → Q .normal a w) :
    (Code.region id ops true).wp P Q a w :=
  wp_region_any hm (wpAny_inv I hend hstep _ _ _ _ (by simp [lacks]) h0)
end

end Go.Proofs.Ytgkeblpjmfdhkaa

namespace Go.Proofs.Ytgkeblpjmfdhkaa
open Go.RowKit Go.Maps
set_option linter.unusedVariables false
set_option linter.unusedSimpArgs false

section
variable {P : Program} {w : World} {ops : Array Oper} {o : Oper} {a : Act} {K : Act → World → Prop} {Q : Exit → Act → World → Prop} {i : Nat}
theorem wpOp_of (hi : ops[i]? = some o) (hg : o.guard = none) (h : Oper.wp P o a w K Q) : wpOp P ops Q i K a w := by
  unfold wpOp
  simp only [hi]
  rw [if_pos (by simp [Region.wanted, hg])]
  exact .inl h
end

theorem eval_of {a : Act} {t : Nat} {v : Value} (h : a.tmps[t]? = some v) : a.eval (.tmp t) = v := by
  simp [Act.eval, h]
theorem all_listed {md : Region.Mode} {ops : Array Oper} {listed : Array Bool} (hwf : ((List.range ops.size).all fun i => ((ops[i]?).map (·.after.all fun e => decide (e.on < i))).getD true) = true) (hs : listed.size = ops.size) (hr : Region.ready md ops listed = []) : ∀ i, i < ops.size → listed.getD i false = true := by
  intro i
  induction i using Nat.strongRecOn with
  | _ i ih =>
    intro hi
    cases hc : listed.getD i false with
    | true => rfl
    | false =>
      exfalso
      have : i ∈ Region.ready md ops listed := mem_ready.2 ⟨getD_in (by omega) hc, ops[i], Array.getElem?_eq_getElem hi, fun e he _ => by
        have h1 := List.all_eq_true.1 hwf i (List.mem_range.2 hi)
        rw [Array.getElem?_eq_getElem hi] at h1
        simp only [Option.map_some, Option.getD_some] at h1
        have h2 := Array.all_eq_true'.1 h1 e he
        have h3 := of_decide_eq_true h2
        exact ih e.on h3 (by omega)⟩
      rw [hr] at this
      cases this

end Go.Proofs.Ytgkeblpjmfdhkaa
